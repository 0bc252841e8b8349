/-
  How contracts are used: arguments of which more is known than the contract wants; calls that leave no block behind; loops that are walked a few times.
-/
import Derived.Test.YtlakoemonbadiaaLxDraw
namespace Go.LX
open Go
theorem Cell.at {l : Unit → List PV} {i : Unit → Int} {K : PV → Prop} (x : Int) (j : Nat) {v : PV} (h : (l ())[j]? = some v) (hx : i () = x) (hj : x.toNat = j) (hk : K v) : Cell l i K := .mk v (by rw [hx, hj]; exact h) hk
mutual
def ale : LV → LV → Prop
  | .p u, .p u' => pvle u u'
  | .agg l, .agg m => ales l m
  | x, y => x = y
def ales : List LV → List LV → Prop
  | [], [] => True
  | x :: l, y :: m => ale x y ∧ ales l m
  | _, _ => False
end

section
variable {c : Ctx} {w : World}
theorem ales_get : ∀ {l m : List LV}, ales l m → l.length = m.length ∧ ∀ (j : Nat) (u' : LV), m[j]? = some u' → ∃ u, l[j]? = some u ∧ ale u u'
  | [], [], _ => ⟨rfl, fun j u' h => by simp at h⟩
  | x :: l, y :: m, h => by
    rw [ales] at h
    obtain ⟨h1, h2⟩ := ales_get h.2
    refine ⟨by simp [h1], fun j u' hj => ?_⟩
    cases j with
    | zero => simp at hj; subst hj; exact ⟨x, rfl, h.1⟩
    | succ j => simp at hj; obtain ⟨u, h3, h4⟩ := h2 j u' hj; exact ⟨u, by simpa using h3, h4⟩
  | [], _ :: _, h => by simp [ales] at h
  | _ :: _, [], h => by simp [ales] at h
theorem ale_cases {u u' : LV} (h : ale u u') : u = u' ∨ (∃ x y, u = .p x ∧ u' = .p y ∧ pvle x y) ∨ ∃ l m, u = .agg l ∧ u' = .agg m ∧ ales l m := by
  unfold ale at h
  split at h
  · exact .inr (.inl ⟨_, _, rfl, rfl, h⟩)
  · exact .inr (.inr ⟨_, _, rfl, rfl, h⟩)
  · exact .inl h
theorem LR.ale {u : LV} {x : Value} (h : LR c w u x) : ∀ {u' : LV}, ale u u' → LR c w u' x := by
  induction h with
  | p v x hv =>
    intro u' hle
    rcases ale_cases hle with e | ⟨a, b, e1, e2, e3⟩ | ⟨a, b, e1, e2, e3⟩
    · subst e; exact .p _ _ hv
    · cases e1; subst e2; exact .p _ _ (hv.le e3)
    · cases e1
  | agg l x hl hrel ih =>
    intro u' hle
    rcases ale_cases hle with e | ⟨a, b, e1, e2, e3⟩ | ⟨a, b, e1, e2, e3⟩
    · subst e; exact .agg _ _ hl hrel
    · cases e1
    · cases e1; subst e2
      obtain ⟨h1, h2⟩ := ales_get e3
      exact .agg _ _ (h1.symm.trans hl) fun j u hu => let ⟨v, h3, h4⟩ := h2 j u hu; ih j v h3 h4
  | _ =>
    intro u' hle
    rcases ale_cases hle with e | ⟨a, b, e1, e2, e3⟩ | ⟨a, b, e1, e2, e3⟩
    · subst e; constructor <;> assumption
    · cases e1
    · cases e1
end

section
variable {P : Unit → Program} {f : Nat} {args args0 : List LV} {h : LH} {n : Nat} {K : LV → LH → Nat → Prop}
theorem CallF.le (hc : CallF P f args0 h n K) (hle : ales args args0) : CallF P f args h n K := by
  cases hc with
  | mk h1 h2 =>
    obtain ⟨g1, g2⟩ := ales_get hle
    refine .mk h1 fun c w xs a b d e => h2 c w xs a b (g1.symm.trans d) fun i u hu => ?_
    obtain ⟨v, h3, h4⟩ := g2 i u hu
    exact (e i v h3).ale h4
/-- A call that leaves no block behind that is known by name. -/
theorem callF_val {R : LV → Prop} (hc : CallF P f args0 [] 0 fun r h' n' => R r ∧ h' = [] ∧ n' = 0) (hle : ales args (renVs [] 0 n args0)) (hok : okVs [] args0 = true) (hR : ∀ r, R r → renV [] 0 n r = r) (hK : ∀ r, R r → K r h n) : CallF P f args h n K := by
  refine CallF.le (callF_frame hc [] rfl trivial rfl hok fun r h' n' ⟨h1, h2, h3⟩ => ?_) hle
  subst h2 h3
  rw [hR r h1]
  exact hK r h1
/-- A call, where less is said of the arguments and the blocks, or in other names. -/
theorem CallF.re {h' : LH} (hre : Re n ⟨args, h, n⟩ ⟨args0, h', n⟩) (hc : CallF P f args0 h' n K) : CallF P f args h n K := by
  cases hc with
  | mk h1 h2 =>
    refine .mk h1 fun c w xs hr hN hl hrel => ?_
    obtain ⟨hre⟩ := hre
    obtain ⟨c', he, hs⟩ := hre c w c { tmps := xs, defers := [] } w hN (Ext.refl hr) ⟨hl, hrel, rfl, hr, hN⟩
    refine (h2 c' w xs hs.hr hs.nn hs.tl hs.tr).mono fun e w' ⟨c2, r, v, h2, n2, g1, g2, g3, g4, g5, g6⟩ => ?_
    exact ⟨c2, r, v, h2, n2, g1, g2, g3, g4, g5, he.trans g6⟩
/-- A call that leaves no block behind that is known by name; what is handed in may be known by name before, and no more behind. -/
theorem callF_go {R : LV → Prop} (hc : CallF P f args0 [] 0 fun r h' n' => R r ∧ h' = [] ∧ n' = 0) (h' : LH) (hre : Re n ⟨args, h, n⟩ ⟨args0, h', n⟩) (hren : renVs [] 0 n args0 = args0) (hok : okVs [] args0 = true) (hR : ∀ r, R r → renV [] 0 n r = r) (hK : ∀ r, R r → K r h' n) : CallF P f args h n K := by
  refine CallF.re hre (callF_frame hc [] rfl trivial hren.symm hok fun r h2 n2 ⟨h1, h3, h4⟩ => ?_)
  subst h3 h4
  rw [hR r h1]
  exact hK r h1
/-- What a call leaves behind, told in other names, or less said of it. -/
theorem CallF.ret {K' : LV → LH → Nat → Prop} (hc : CallF P f args h n K) (hK : ∀ r h' n', K r h' n' → RetF n [r] h' n' K') : CallF P f args h n K' := by
  cases hc with
  | mk h1 h2 =>
    refine .mk h1 fun c w xs hr hN hl hrel => ?_
    refine (h2 c w xs hr hN hl hrel).mono fun e w' ⟨c2, r, v, h2, n2, g1, g2, g3, g4, g5, g6⟩ => ?_
    obtain ⟨rs', h3, n3, ⟨hre⟩, hlr, hk⟩ := hK r h2 n2 g2
    obtain ⟨c3, he3, hs3⟩ := hre c w c2 { tmps := #[v], defers := [] } w' hN g6 ⟨rfl, fun i u hu => by
      cases i with
      | zero => simp at hu; subst hu; exact g5
      | succ i => simp at hu, rfl, g3, g4⟩
    obtain ⟨u, rfl⟩ : ∃ u, rs' = [u] := by
      cases rs' with
      | nil => cases hlr
      | cons u l => cases l with
        | nil => exact ⟨u, rfl⟩
        | cons _ _ => simp at hlr
    exact ⟨c3, u, v, h3, n3, g1, hk, hs3.hr, hs3.nn, hs3.tr 0 u rfl, he3⟩
end
end Go.LX
