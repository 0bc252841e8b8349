/-
  The ground of the proof, part 9: the calculus and what is proved with it.
-/
import Derived.Test.YtjfdfbpgckilpaaGreatDoorBh
import Derived.Test.YtjfdfbpgckilpaaGreatDoorBf
namespace Go.Proofs.YtjfdfbpgckilpaaGreatDoor
open Go Go.LX
set_option maxRecDepth 100000
set_option linter.unusedVariables false
set_option linter.unusedSimpArgs false
set_option maxHeartbeats 32000000
def mk8 (m : Nat) : List Bool := List.replicate m true ++ List.replicate (8 - m) false
def rowAt (k j : Nat) : Rw := if 8 * j < k then (0,mk8 (min (k - 8 * j) 8)) else (0,[])
def Fill (R : List Rw) (k : Nat) : Prop := ∀ j,j < R.length → R[j]? = some (rowAt k j)
theorem mk8_get {m s : Nat} {b : Bool} (hm : m ≤ 8) (h : (mk8 m)[s]? = some b) : s < 8 ∧ (b = true ↔ s < m) := by
 have hl : (mk8 m).length = 8 := by rw [mk8,List.length_append,List.length_replicate,List.length_replicate]; omega
 have hs := (List.getElem?_eq_some_iff.1 h).1
 refine ⟨by omega,?_⟩
 by_cases hsm : s < m
 ·rw [mk8,List.getElem?_append_left (by rw [List.length_replicate]; exact hsm),List.getElem?_replicate,if_pos hsm] at h
  cases h
  exact ⟨fun _ => hsm,fun _ => rfl⟩
 ·rw [mk8,List.getElem?_append_right (by rw [List.length_replicate]; omega),List.getElem?_replicate,if_pos (by rw [List.length_replicate]; omega)] at h
  cases h
  exact ⟨fun h => (by cases h),fun h => absurd h hsm⟩
theorem mk8_at {m s : Nat} (hm : m ≤ 8) (hs : s < 8) : (mk8 m)[s]? = some (decide (s < m)) := by
 by_cases hsm : s < m
 ·rw [mk8,List.getElem?_append_left (by rw [List.length_replicate]; exact hsm),List.getElem?_replicate,if_pos hsm,decide_eq_true hsm]
 ·rw [mk8,List.getElem?_append_right (by rw [List.length_replicate]; omega),List.getElem?_replicate,if_pos (by rw [List.length_replicate]; omega),decide_eq_false hsm]
theorem mk8_set {m : Nat} (h : m < 8) : (mk8 m).set m true = mk8 (m + 1) := by
 have : m = 0 ∨ m = 1 ∨ m = 2 ∨ m = 3 ∨ m = 4 ∨ m = 5 ∨ m = 6 ∨ m = 7 := by omega
 rcases this with rfl | rfl | rfl | rfl | rfl | rfl | rfl | rfl <;> rfl
theorem Fill.step {R R' : List Rw} {k : Nat} {i s : Int} (hF : Fill R k) (h : Alloced R 0 i s true R') : 32 * i + s * 4 = 4 * (k : Int) ∧ Fill R' (k + 1) := by
 cases h with
 | old i s l h0 hi hs h1 h2 =>
  have hil := (List.getElem?_eq_some_iff.1 hi).1
  have hr := hF i hil
  rw [hi] at hr
  have hr := Option.some.inj hr
  unfold rowAt at hr
  split at hr
  ·rename_i hik
   have hl : l = mk8 (min (k - 8 * i) 8) := congrArg Prod.snd hr
   obtain ⟨m,hm⟩ : ∃ m,m = min (k - 8 * i) 8 := ⟨_,rfl⟩
   rw [← hm] at hl
   subst hl
   obtain ⟨hs8,hsm⟩ := mk8_get (by omega) hs
   have hsm : ¬ s < m := fun h => by have := hsm.2 h; cases this
   have hms : ¬ m < s := fun h => by
    have h3 := (mk8_get (by omega) (h1 m h)).2.1 rfl
    omega
   have hse : s = m := by omega
   subst hse
   refine ⟨by omega,fun j hj => ?_⟩
   rw [List.length_set] at hj
   by_cases e : j = i
   ·subst e
    rw [List.getElem?_set_self hil,mk8_set hs8]
    have hq : min (k + 1 - 8 * j) 8 = s + 1 := by omega
    unfold rowAt
    rw [if_pos (by omega),hq]
   ·rw [List.getElem?_set_ne (fun h => e h.symm),hF j hj]
    unfold rowAt
    by_cases hjk : 8 * j < k
    ·rw [if_pos hjk,if_pos (by omega)]
     have hq : min (k - 8 * j) 8 = min (k + 1 - 8 * j) 8 := by omega
     rw [hq]
    ·rw [if_neg hjk,if_neg (by omega)]
  ·have hl : l = [] := congrArg Prod.snd hr
   subst hl
   simp at hs
 | fresh i d h0 h2 hi h3 =>
  have hil := (List.getElem?_eq_some_iff.1 hi).1
  have hr := hF i hil
  rw [hi] at hr
  have hr := Option.some.inj hr
  have hik : ¬ 8 * i < k := by
   intro hik
   unfold rowAt at hr
   rw [if_pos hik] at hr
   have hl : [] = mk8 (min (k - 8 * i) 8) := congrArg Prod.snd hr
   have h8 : (mk8 (min (k - 8 * i) 8)).length = 8 := by rw [mk8,List.length_append,List.length_replicate,List.length_replicate]; omega
   rw [← hl] at h8
   simp at h8
  have hk8 : k % 8 = 0 := by
   refine Classical.byContradiction fun hne => ?_
   have hjl : k / 8 < R.length := by omega
   have hrow := hF (k / 8) hjl
   unfold rowAt at hrow
   rw [if_pos (by omega)] at hrow
   refine h2 (k / 8) _ hrow ?_
   have hm : min (k - 8 * (k / 8)) 8 = k % 8 := by omega
   rw [hm]
   have := mk8_at (m := k % 8) (s := k % 8) (by omega) (by omega)
   rw [decide_eq_false (by omega)] at this
   exact List.mem_of_getElem? this
  have hki : k = 8 * i := by
   rcases Nat.eq_zero_or_pos i with e | e
   ·omega
   ·have hj := hF (i - 1) (by omega)
    have hlt : 8 * (i - 1) < k := by
     refine Classical.byContradiction fun hne => ?_
     unfold rowAt at hj
     rw [if_neg hne] at hj
     exact h3 (i - 1) (by omega) 0 hj
    omega
  refine ⟨by omega,fun j hj => ?_⟩
  rw [List.length_set] at hj
  by_cases e : j = i
  ·subst e
   rw [List.getElem?_set_self hil]
   have hq : min (k + 1 - 8 * j) 8 = 1 := by omega
   unfold rowAt
   rw [if_pos (by omega),hq]; rfl
  ·rw [List.getElem?_set_ne (fun h => e h.symm),hF j hj]
   unfold rowAt
   by_cases hjk : 8 * j < k
   ·rw [if_pos hjk,if_pos (by omega)]
    have hq : min (k - 8 * j) 8 = min (k + 1 - 8 * j) 8 := by omega
    rw [hq]
   ·rw [if_neg hjk,if_neg (by omega)]
theorem Fill.new (n : Nat) : Fill (List.replicate n (0,[])) 0 := by
 intro j hj
 rw [List.length_replicate] at hj
 rw [List.getElem?_replicate,if_pos hj]
 unfold rowAt
 rw [if_neg (by omega)]
theorem Fill.alloc {R R' : List Rw} {ws ws' : List Int} {k : Nat} {a e : Int} (hF : Fill R k) (h : Alloct R ws 5 2 a e R' ws') (he : e = 0) : a = 4 * (k : Int) ∧ Fill R' (k + 1) := by
 cases h with
 | arg h => exact absurd he (by decide)
 | room i s R' h ha => exact absurd he (by decide)
 | ok i s _ R' h ha hi hat =>
  have h0 : ofN 2 = 0 := rfl
  rw [h0] at ha hat
  obtain ⟨h1,h2⟩ := hF.step ha
  have hw : wordsOf 0 = 4 := rfl
  rw [hw] at hat
  exact ⟨by omega,h2⟩
structure Line (R : List Rw) (ws l : List Int) (wd : Nat → Int) : Prop where
 obj : ∀ x,x ∈ objs R ↔ x ∈ l
 box : ∀ a ∈ l,Kept R ws a 5 2
 w0 : ∀ (k : Nat) (a : Int),l[k]? = some a → ws[(a + 1).toNat]? = some (wd k)
 w1 : ∀ a ∈ l,ws[(a + 2).toNat]? = some 0
 pl : ∀ (k : Nat) (a : Int),l[k]? = some a → a = 4 * (k : Int)
 fill : Fill R l.length
theorem Line.ld {R : List Rw} {ws l : List Int} {wd : Nat → Int} (h : Line R ws l wd) {k : Nat} {a i w : Int} (ha : l[k]? = some a) (hl : Loaded R ws a i w 0) : (i = 0 ∧ w = wd k) ∨ (i = 1 ∧ w = 0) := by
 have hb := h.box a (List.mem_of_getElem? ha)
 cases hl with
 | ok k2 l2 _ hK hi hx =>
  have hd := (hK.det9 hb).2
  have hi2 : i = 0 ∨ i = 1 := by omega
  rcases hi2 with rfl | rfl
  ·rw [show a + 1 + 0 = a + 1 by omega,h.w0 k a ha] at hx
   cases hx; exact .inl ⟨rfl,rfl⟩
  ·rw [show a + 1 + 1 = a + 2 by omega,h.w1 a (List.mem_of_getElem? ha)] at hx
   cases hx; exact .inr ⟨rfl,rfl⟩
theorem Line.l0 {R : List Rw} {ws l : List Int} {wd : Nat → Int} (h : Line R ws l wd) {k : Nat} {a : Int} (ha : l[k]? = some a) : Loaded R ws a 0 (wd k) 0 :=
 .ok 5 2 _ (h.box a (List.mem_of_getElem? ha)) (by omega) (by rw [show a + 1 + 0 = a + 1 by omega]; exact h.w0 k a ha)
theorem Line.leads {R : List Rw} {ws l : List Int} {wd : Nat → Int} (h : Line R ws l wd) {k : Nat} {a b : Int} (ha : l[k]? = some a) : Leads R ws a b ↔ wd k % 2 = 1 ∧ (wd k - 1) / 2 = b ∧ b ∈ l := by
 constructor
 ·rintro ⟨i,w,hl,h1,h2,h3⟩
  rcases h.ld ha hl with ⟨_,rfl⟩ | ⟨_,rfl⟩
  ·exact ⟨h1,h2,(h.obj b).1 h3⟩
  ·omega
 ·rintro ⟨h1,h2,h3⟩
  exact ⟨0,wd k,h.l0 ha,h1,h2,(h.obj b).2 h3⟩
theorem Line.brk {R : List Rw} {ws l : List Int} {wd : Nat → Int} (h : Line R ws l wd) (hw : ∀ k,k < l.length → wd k % 2 = 1 → (wd k - 1) / 2 ∈ l) {x : Int} (hx : x ∈ l) : ¬ Brk R ws x := by
 rintro ⟨i,w,hl,h1,h2⟩
 obtain ⟨k,hk⟩ := List.getElem?_of_mem hx
 rcases h.ld hk hl with ⟨_,rfl⟩ | ⟨_,rfl⟩
 ·exact h2 ((h.obj _).2 (hw k (List.getElem?_eq_some_iff.1 hk).1 h1))
 ·omega
def nxt (l : List Int) (k : Nat) : Int := match l[k + 1]? with
 | some b => 2 * b + 1
 | none => 0
theorem Line.rch {R : List Rw} {ws l : List Int} (h : Line R ws l (nxt l)) {p : Nat} {r : Int} (hr : l[p]? = some r) (x : Int) : Rch R ws [r] x ↔ x ∈ l.drop p := by
 constructor
 ·intro hx
  have : ∃ j,p ≤ j ∧ l[j]? = some x := by
   induction hx with
   | root a ha ho => rw [List.mem_singleton.1 ha]; exact ⟨p,Nat.le_refl _,hr⟩
   | next a b _ hl ih =>
    obtain ⟨j,h1,h2⟩ := ih
    obtain ⟨h3,h4,h5⟩ := (h.leads h2).1 hl
    unfold nxt at h3 h4
    cases e : l[j + 1]? with
    | none => rw [e] at h3; exact absurd h3 (by decide)
    | some c =>
     rw [e] at h4
     have h4 : (2 * c + 1 - 1) / 2 = b := h4
     have : c = b := by omega
     subst this
     exact ⟨j + 1,by omega,e⟩
  obtain ⟨j,h1,h2⟩ := this
  refine List.mem_of_getElem? (i := j - p) ?_
  rw [List.getElem?_drop,show p + (j - p) = j by omega]; exact h2
 ·intro hx
  obtain ⟨j,hj⟩ := List.getElem?_of_mem hx
  rw [List.getElem?_drop] at hj
  have : ∀ j (x : Int),l[p + j]? = some x → Rch R ws [r] x := by
   intro j
   induction j with
   | zero =>
    intro x hx
    have hx : l[p]? = some x := hx
    rw [hr] at hx; cases hx
    exact .root r List.mem_cons_self ((h.obj r).2 (List.mem_of_getElem? hr))
   | succ j ih =>
    intro x hx
    have hlt := (List.getElem?_eq_some_iff.1 hx).1
    obtain ⟨a,ha⟩ : ∃ a,l[p + j]? = some a := ⟨_,List.getElem?_eq_getElem (by omega)⟩
    refine .next a x (ih a ha) ((h.leads ha).2 ?_)
    have hn : nxt l (p + j) = 2 * x + 1 := by
     unfold nxt
     rw [show p + j + 1 = p + (j + 1) by omega,hx]
    rw [hn]
    exact ⟨by omega,by omega,List.mem_of_getElem? hx⟩
  exact this j x hj
theorem nxt_in {l : List Int} {k : Nat} (hk : k < l.length) (h : nxt l k % 2 = 1) : (nxt l k - 1) / 2 ∈ l := by
 unfold nxt at h ⊢
 cases e : l[k + 1]? with
 | none => rw [e] at h; exact absurd h (by decide)
 | some c =>
  show (2 * c + 1 - 1) / 2 ∈ l
  rw [show (2 * c + 1 - 1) / 2 = c by omega]
  exact List.mem_of_getElem? e
def nxtR (l : List Int) (k : Nat) : Int := match l[k + 1]? with
 | some b => 2 * b + 1
 | none => 2 * (l.headD 0) + 1
theorem Line.ring {R : List Rw} {ws l : List Int} (h : Line R ws l (nxtR l)) {p : Nat} {r : Int} (hr : l[p]? = some r) (x : Int) : Rch R ws [r] x ↔ x ∈ l := by
 have hpl := (List.getElem?_eq_some_iff.1 hr).1
 constructor
 ·intro hx
  exact (h.obj x).1 hx.obj
 ·intro hx
  have up : ∀ (q : Nat) (a : Int),l[q]? = some a → Rch R ws [r] a → ∀ j (x : Int),l[q + j]? = some x → Rch R ws [r] x := by
   intro q a hq ha j
   induction j with
   | zero => intro x hx; have hx : l[q]? = some x := hx; rw [hq] at hx; cases hx; exact ha
   | succ j ih =>
    intro x hx
    have hlt := (List.getElem?_eq_some_iff.1 hx).1
    obtain ⟨b,hb⟩ : ∃ b,l[q + j]? = some b := ⟨_,List.getElem?_eq_getElem (by omega)⟩
    refine .next b x (ih b hb) ((h.leads hb).2 ?_)
    have hn : nxtR l (q + j) = 2 * x + 1 := by
     unfold nxtR
     rw [show q + j + 1 = q + (j + 1) by omega,hx]
    rw [hn]
    exact ⟨by omega,by omega,List.mem_of_getElem? hx⟩
  have hroot : Rch R ws [r] r := .root r List.mem_cons_self ((h.obj r).2 (List.mem_of_getElem? hr))
  obtain ⟨z,hz⟩ : ∃ z,l[l.length - 1]? = some z := ⟨_,List.getElem?_eq_getElem (by omega)⟩
  have hlast : Rch R ws [r] z := up p r hr hroot (l.length - 1 - p) z (by rw [show p + (l.length - 1 - p) = l.length - 1 by omega]; exact hz)
  obtain ⟨f,hf⟩ : ∃ f,l[0]? = some f := ⟨_,List.getElem?_eq_getElem (by omega)⟩
  have hhd : l.headD 0 = f := by
   cases l with
   | nil => simp at hpl
   | cons y l => cases hf; rfl
  have hfirst : Rch R ws [r] f := .next z f hlast ((h.leads hz).2 (by
   have hn : nxtR l (l.length - 1) = 2 * f + 1 := by
    unfold nxtR
    rw [show l.length - 1 + 1 = l.length by omega,List.getElem?_eq_none (Nat.le_refl _),hhd]
   rw [hn]
   exact ⟨by omega,by omega,List.mem_of_getElem? hf⟩))
  obtain ⟨j,hj⟩ := List.getElem?_of_mem hx
  exact up 0 f hf hfirst j x (by rw [Nat.zero_add]; exact hj)
theorem nxtR_in {l : List Int} {k : Nat} (hk : k < l.length) (h : nxtR l k % 2 = 1) : (nxtR l k - 1) / 2 ∈ l := by
 unfold nxtR at h ⊢
 cases e : l[k + 1]? with
 | none =>
  show (2 * l.headD 0 + 1 - 1) / 2 ∈ l
  rw [show (2 * l.headD 0 + 1 - 1) / 2 = l.headD 0 by omega]
  cases l with
  | nil => simp at hk
  | cons y l => exact List.mem_cons_self
 | some c =>
  show (2 * c + 1 - 1) / 2 ∈ l
  rw [show (2 * c + 1 - 1) / 2 = c by omega]
  exact List.mem_of_getElem? e
theorem Fill.room {R R' : List Rw} {ws ws' : List Int} {k : Nat} {a e : Int} (hF : Fill R k) (hk : k < 8 * R.length) (h : Alloct R ws 5 2 a e R' ws') : e = 0 := by
 cases h with
 | arg h => exact absurd (by omega) h
 | ok i s _ R' h ha hi hat => rfl
 | room i s R' h ha =>
  have h0 : ofN 2 = 0 := rfl
  rw [h0] at ha
  have hrow := hF (k / 8) (by omega)
  cases ha with
  | no h => exact absurd h (by decide)
  | full _ h2 h3 =>
   unfold rowAt at hrow
   by_cases hq : 8 * (k / 8) < k
   ·rw [if_pos hq] at hrow
    refine absurd ?_ (h2 (k / 8) _ hrow)
    have hm : min (k - 8 * (k / 8)) 8 = k % 8 := by omega
    rw [hm]
    have := mk8_at (m := k % 8) (s := k % 8) (by omega) (by omega)
    rw [decide_eq_false (by omega)] at this
    exact List.mem_of_getElem? this
   ·rw [if_neg hq] at hrow
    exact absurd hrow (h3 (k / 8) 0)
theorem Line.new (n m : Nat) (hm : m = 32 * n) : Line (List.replicate n (0,[])) (List.replicate m 0) [] (fun _ => 0) := by
 subst hm
 refine ⟨fun x => ⟨fun h => ?_,fun h => (by cases h)⟩,fun a h => (by cases h),fun k a h => (by simp at h),fun a h => (by cases h),fun k a h => (by simp at h),Fill.new n⟩
 exact absurd ((obj_iff (AOk.new n) x).1 h) (new_none n x)
theorem Line.alloc {R R' : List Rw} {ws ws' l : List Int} {a e : Int} (hA : AOk R ws) (h : Line R ws l (fun _ => 0)) (hk : l.length < 8 * R.length) (hs : Alloct R ws 5 2 a e R' ws') : e = 0 ∧ Line R' ws' (l ++ [a]) (fun _ => 0) := by
 have he : e = 0 := h.fill.room hk hs
 obtain ⟨h1,h2,h3,h4,h5,h6,h7⟩ := alloct_ok hA hs he
 obtain ⟨h8,h9⟩ := h.fill.alloc hs he
 have hA' := (AOk.alloct hA hs).1
 have cell : ∀ (j : Int),0 ≤ j → j < 2 → (∀ b ∈ l,ws[(b + 1 + j).toNat]? = some 0) → ∀ b ∈ l ++ [a],ws'[(b + 1 + j).toNat]? = some 0 := by
  intro j hj0 hj1 hl b hb
  rcases List.mem_append.1 hb with hb | hb
  ·rw [h7 b 5 2 j (h.box b hb) hj0 hj1]; exact hl b hb
  ·rw [List.mem_singleton.1 hb]; exact h4 j hj0 hj1
 refine ⟨he,⟨fun x => ?_,fun b hb => ?_,fun k b hb => ?_,fun b hb => ?_,fun k b hb => ?_,?_⟩⟩
 ·rw [obj_iff hA',List.mem_append,List.mem_singleton]
  constructor
  ·intro hx
   rcases h6 x hx with e | e
   ·exact .inr e
   ·exact .inl ((h.obj x).1 ((obj_iff hA x).2 e))
  ·rintro (hx | hx)
   ·exact (h5 _ _ _ (h.box x hx)).obj6
   ·rw [hx]; exact h1.obj6
 ·rcases List.mem_append.1 hb with hb | hb
  ·exact h5 _ _ _ (h.box b hb)
  ·rw [List.mem_singleton.1 hb]; exact h1
 ·have := cell 0 (by omega) (by omega) (fun c hc => by
   obtain ⟨q,hq⟩ := List.getElem?_of_mem hc
   rw [show c + 1 + 0 = c + 1 by omega]; exact h.w0 q c hq) b (List.mem_of_getElem? hb)
  rwa [show b + 1 + 0 = b + 1 by omega] at this
 ·have := cell 1 (by omega) (by omega) (fun c hc => by rw [show c + 1 + 1 = c + 2 by omega]; exact h.w1 c hc) b hb
  rwa [show b + 1 + 1 = b + 2 by omega] at this
 ·rcases Nat.lt_or_ge k l.length with hlt | hge
  ·rw [List.getElem?_append_left hlt] at hb; exact h.pl k b hb
  ·rw [List.getElem?_append_right hge] at hb
   have hk0 : k - l.length = 0 := by
    have := (List.getElem?_eq_some_iff.1 hb).1
    simp at this; omega
   rw [hk0] at hb
   cases hb
   rw [h8,show k = l.length by omega]
 ·rw [List.length_append]; exact h9
theorem Line.store {R : List Rw} {ws ws' l : List Int} {wd : Nat → Int} {k : Nat} {a x e : Int} (h : Line R ws l wd) (ha : l[k]? = some a) (hs : Stored R ws a 0 x e ws') : e = 0 ∧ Line R ws' l (fun j => if j = k then x else wd j) := by
 have ham := List.mem_of_getElem? ha
 have hpa := h.pl k a ha
 obtain ⟨he,hws⟩ := stored_of (h.box a ham) ⟨by omega,by omega⟩ hs
 rw [show a + 1 + 0 = a + 1 by omega] at hws
 subst hws
 have hlt := (List.getElem?_eq_some_iff.1 (h.w0 k a ha)).1
 refine ⟨he,⟨h.obj,fun b hb => ?_,fun j b hb => ?_,fun b hb => ?_,h.pl,h.fill⟩⟩
 ·obtain ⟨j,hj⟩ := List.getElem?_of_mem hb
  have hpb := h.pl j b hj
  obtain ⟨w,hw,hx,r1,r2,r3,r4⟩ := h.box b hb
  exact .mk _ _ w hw (by rw [List.getElem?_set_ne (by omega)]; exact hx) r1 r2 r3 r4
 ·have hpb := h.pl j b hb
  by_cases e : j = k
  ·subst e
   rw [ha] at hb; cases hb
   rw [if_pos rfl,List.getElem?_set_self hlt]
  ·rw [if_neg e,List.getElem?_set_ne (by omega)]
   exact h.w0 j b hb
 ·obtain ⟨j,hj⟩ := List.getElem?_of_mem hb
  have hpb := h.pl j b hj
  rw [List.getElem?_set_ne (by omega)]
  exact h.w1 b hb
theorem Line.rising {R : List Rw} {ws l : List Int} {wd : Nat → Int} (h : Line R ws l wd) : l.Pairwise (· < ·) := by
 refine List.pairwise_iff_getElem.2 fun i j hi hj hij => ?_
 have h1 := h.pl i _ (List.getElem?_eq_getElem hi)
 have h2 := h.pl j _ (List.getElem?_eq_getElem hj)
 omega
theorem Rch.nil {R : List Rw} {ws : List Int} {z : Int} (h : Rch R ws [] z) : False := by
 induction h with
 | root a h ho => cases h
 | next a b h hl ih => exact ih
theorem Rch.app {R : List Rw} {ws x y : List Int} {z : Int} : Rch R ws (x ++ y) z ↔ Rch R ws x z ∨ Rch R ws y z := by
 constructor
 ·intro h
  induction h with
  | root a h ho => exact (List.mem_append.1 h).imp (fun h => .root a h ho) (fun h => .root a h ho)
  | next a b h hl ih => exact ih.imp (fun h => .next a b h hl) (fun h => .next a b h hl)
 ·intro h
  rcases h with h | h
  ·induction h with
   | root a h ho => exact .root a (List.mem_append_left _ h) ho
   | next a b h hl ih => exact .next a b ih hl
  ·induction h with
   | root a h ho => exact .root a (List.mem_append_right _ h) ho
   | next a b h hl ih => exact .next a b ih hl
theorem Rch.again {R : List Rw} {ws x p : List Int} (hp : ∀ z,z ∈ p ↔ Rch R ws x z) (z : Int) : Rch R ws p z ↔ z ∈ p := by
 constructor
 ·intro h
  induction h with
  | root a h ho => exact h
  | next a b h hl ih => exact (hp b).2 (.next a b ((hp a).1 ih) hl)
 ·intro h
  exact .root z h ((hp z).1 h).obj
theorem CallF.nils1 {P : Unit → Program} {f : Nat} {x : LV} {h : LH} {n : Nat} {K : LV → LH → Nat → Prop} (hc : CallF P f [x,.p (.vsl (.sym 0) true [])] h n K) : CallF P f [x,.p .nils] h n K := by
 cases hc with
 | mk h1 h2 =>
  refine .mk h1 fun c w xs hr hN hl hrel => h2 c w xs hr hN hl (fun i u hu => ?_)
  match i,hu with
  | 0,hu => cases hu; exact hrel 0 _ rfl
  | 1,hu =>
   cases hu
   have h3 := hrel 1 _ rfl
   generalize xs.getD 1 Go.undef = v at h3
   cases h3 with
   | p _ _ h4 =>
    cases h4 with
    | nils => exact .p _ _ (.vsl0 _ _ _ none 0 rfl (Nat.zero_le _))
theorem Line.congr {R : List Rw} {ws l : List Int} {wd wd' : Nat → Int} (h : Line R ws l wd) (hw : ∀ k,k < l.length → wd' k = wd k) : Line R ws l wd' :=
 ⟨h.obj,h.box,fun k a ha => by rw [hw k (List.getElem?_eq_some_iff.1 ha).1]; exact h.w0 k a ha,h.w1,h.pl,h.fill⟩
theorem Line.objs {R : List Rw} {ws l : List Int} {wd : Nat → Int} (hA : AOk R ws) (h : Line R ws l wd) : Go.Proofs.YtjfdfbpgckilpaaGreatDoor.objs R = l := asc_eq (objsTo_asc hA.rows _) h.rising h.obj
def InvA : Nat → List Rw → List Int → Prop
 | 0,R,ws => Line R ws [] (fun _ => 0)
 | 1,R,ws => Line R ws [0] (fun _ => 0)
 | 2,R,ws => Line R ws [0,4] (fun _ => 0)
 | 3,R,ws => Line R ws [0,4] (nxt [0,4])
 | _,_,_ => True
def opsA : List Op6 := [(0,4,0,0,0,0),(0,4,0,0,0,0),(2,0,0,0,0,1)]
theorem InvA.step (i : Nat) (op : Op6) (R : List Rw) (ws : List Int) (R' : List Rw) (ws' : List Int) (ho : opsA[i]? = some op) (hA : AOk R ws) (hR : R.length = 6) (hI : InvA i R ws) (hs : Bstep R ws op R' ws') : InvA (i + 1) R' ws' := by
 have h5 : 1 + IntKind.u64.wrap 4 % 6 = 5 := by decide
 have hal : ∀ l : List Int,l.length < 8 * R.length → Line R ws l (fun _ => 0) → Bstep R ws (0,4,0,0,0,0) R' ws' → Line R' ws' (l ++ [4 * (l.length : Int)]) (fun _ => 0) := by
  intro l hl hL hs
  cases hs with
  | al _ _ _ _ _ _ a e _ _ hk hT =>
   rw [h5] at hT
   obtain ⟨_,h1⟩ := hL.alloc hA hl hT
   have hp := h1.pl l.length a (by rw [List.getElem?_append_right (Nat.le_refl _),Nat.sub_self]; rfl)
   rw [← hp]; exact h1
 match i,ho with
 | 0,ho => cases ho; exact hal [] (by simp; omega) hI hs
 | 1,ho => cases ho; exact hal [0] (by simp; omega) hI hs
 | 2,ho =>
  cases ho
  have hI : Line R ws [0,4] (fun _ => 0) := hI
  have hob := hI.objs hA
  cases hs with
  | al _ _ _ _ _ _ a e _ _ hk hT => exact absurd rfl hk.2.1
  | pt _ _ _ _ _ e _ hT =>
   have e0 : pkB R 0 = 0 := by unfold pkB; rw [hob]; decide
   have e1 : pkB R 1 = 4 := by unfold pkB; rw [hob]; decide
   have e2 : IntKind.u64.wrap 0 % 10 = 0 := by decide
   rw [e0,e1,e2] at hT
   obtain ⟨_,h1⟩ := hI.store (k := 0) (a := 0) rfl hT
   refine Line.congr h1 (fun k hk => ?_)
   have hk : k < 2 := hk
   have : k = 0 ∨ k = 1 := by omega
   rcases this with rfl | rfl <;> rfl
theorem awake22_lx (o : Unit → Obj) (ho : IsPow o) : CallF (fun _ => Tryz.prog) 45 [] [(0,.fix 0 o)] 1 (fun r h n => r = .p (.bool true) ∧ h = [(0,.fix 0 o)] ∧ n = 1) := by
 refine callF_of_body tok Tryz.func45 (by kernel_rfl) rfl rfl rfl ?_; conv => cbv
 refine CallF.re (args0 := [.p (.vsl (.sym 3) true [.int .i64 (.sym 0),.int .i64 (.sym 4),.int .i64 (.sym 0),.int .i64 (.sym 0),.int .i64 (.sym 0),.int .i64 (.sym 0),.int .i64 (.sym 0),.int .i64 (.sym 4),.int .i64 (.sym 0),.int .i64 (.sym 0),.int .i64 (.sym 0),.int .i64 (.sym 0),.int .i64 (.sym 2),.int .i64 (.sym 0),.int .i64 (.sym 0),.int .i64 (.sym 0),.int .i64 (.sym 0),.int .i64 (.sym 1)])]) (h' := [(0,.fix 0 o)]) (Re.at [(0,0)] []) (cfr (built_lx o ho 3 opsA [.int .i64 (.sym 0),.int .i64 (.sym 4),.int .i64 (.sym 0),.int .i64 (.sym 0),.int .i64 (.sym 0),.int .i64 (.sym 0),.int .i64 (.sym 0),.int .i64 (.sym 4),.int .i64 (.sym 0),.int .i64 (.sym 0),.int .i64 (.sym 0),.int .i64 (.sym 0),.int .i64 (.sym 2),.int .i64 (.sym 0),.int .i64 (.sym 0),.int .i64 (.sym 0),.int .i64 (.sym 0),.int .i64 (.sym 1)] rfl rfl (by decide) (by decide) InvA (Line.new 6 192 rfl) InvA.step) [(0,0)] (fun r h' n' hrr => ?_))
 obtain ⟨N,W,m,R,ws,vs,C,G,L,D,Q,z,ov,P,B,V,Qr,la,e1,e2,e3,hN,hW,h,hr,hS,hI⟩ := hrr
 subst e1 e2 e3
 have hI : Line R ws [0,4] (nxt [0,4]) := hI
 conv => cbv
 have hob := hI.objs h.a
 have hrc : ∀ x,Rch R ws [0] x ↔ x ∈ [(0 : Int),4] := hI.rch (p := 0) rfl
 refine CallF.re (args0 := [.ptr 2 (.lit 0),.p (.vsl (.sym 1) true [.int .i64 (.sym 0)])]) (h' := [hpA 2 3 7 8 3 W 0 0 0,hpB 3 4 6 3 W,hpC 4 5 179 2 N,hpP 5 L,hpP 6 D,hpF 7 z ov,hpP 8 Q,hpR 9 10 15 3 W 16 0 0 0,hpB 10 11 14 3 W,hpD 11 12 3 1 N 13 254 8 N,hpP 12 P,hpP 13 B,hpP 14 V,hpP 15 Qr,(16,.mix [.p (.vsl (.sym m) true la),.p (.bool ov)]),(0,.fix 0 o)]) (Re.at [(0,0),(2,2),(3,3),(4,4),(5,5),(6,6),(7,7),(8,8),(9,9),(10,10),(11,11),(12,12),(13,13),(14,14),(15,15),(16,16)] []) (cfr (reach_lx R ws C G N W 0 0 0 L D Q z ov h [0] 1 [.int .i64 (.sym 0)] rfl rfl (by decide)) [(0,2),(1,3),(2,4),(3,5),(4,6),(5,7),(6,8)] (fun r h' n' hrr => ?_))
 obtain ⟨X,j,O,e1,e2,e3,hO,hj,hXa,hXm⟩ := hrr
 subst e1 e2 e3
 have hX : X = [0,4] := asc_eq hXa (by decide) (fun x => (hXm x).trans (hrc x))
 have hj : j = 2 := by rw [hj,hX]; rfl
 conv => cbv
 refine Br.yes (show j = 2 from hj) ?_
 conv => cbv
 refine CallF.nils1 (cfr (lost_lx R ws C G N W 0 0 0 L D Q z ov h [] 0 [] rfl rfl (by decide)) [(0,2),(1,3),(2,4),(3,5),(4,6),(5,7),(6,8)] (fun r h' n' hrr => ?_))
 obtain ⟨Y,j2,O2,e1,e2,e3,hO2,hj2,hYa,hYm⟩ := hrr
 subst e1 e2 e3
 have hY : Y = [0,4] := asc_eq hYa (by decide) (fun x => by rw [hYm,hob]; exact ⟨fun q => q.1,fun q => ⟨q,fun w => w.nil⟩⟩)
 have hj2 : j2 = 2 := by rw [hj2,hY]; rfl
 conv => cbv
 refine Br.yes (show j2 = 2 from hj2) ?_
 conv => cbv
 refine CallF.re (args0 := [.ptr 2 (.lit 0),.p (.vsl (.sym 1) true [.int .i64 (.sym 0)])]) (h' := [hpA 2 3 7 8 3 W 0 0 0,hpB 3 4 6 3 W,hpC 4 5 179 2 N,hpP 5 L,hpP 6 D,hpF 7 z ov,hpP 8 Q,hpR 9 10 15 3 W 16 0 0 0,hpB 10 11 14 3 W,hpD 11 12 3 1 N 13 254 8 N,hpP 12 P,hpP 13 B,hpP 14 V,hpP 15 Qr,(16,.mix [.p (.vsl (.sym m) true la),.p (.bool ov)]),(0,.fix 0 o)]) (Re.at [(0,0),(2,2),(3,3),(4,4),(5,5),(6,6),(7,7),(8,8),(9,9),(10,10),(11,11),(12,12),(13,13),(14,14),(15,15),(16,16)] []) (cfr (broken_lx R ws C G N W 0 0 0 L D Q z ov h [0] 1 [.int .i64 (.sym 0)] rfl rfl (by decide)) [(0,2),(1,3),(2,4),(3,5),(4,6),(5,7),(6,8)] (fun r h' n' hrr => ?_))
 obtain ⟨Z,j3,O3,e1,e2,e3,hO3,hj3,hZa,hZm⟩ := hrr
 subst e1 e2 e3
 have hZ : Z = [] := List.eq_nil_iff_forall_not_mem.2 (fun x hx => by
  have h1 := (hZm x).1 hx
  exact hI.brk (fun k hk => nxt_in hk) ((hrc x).1 h1.1) h1.2)
 have hj3 : j3 = 0 := by rw [hj3,hZ]; rfl
 conv => cbv
 refine Br.yes (show j3 = 0 from hj3) ?_
 conv => cbv
 refine RetF.mk [.p (.bool true)] [(0,.fix 0 o)] 1 (Re.at [(0,0)] []) rfl ⟨rfl,rfl,rfl⟩
end Go.Proofs.YtjfdfbpgckilpaaGreatDoor
