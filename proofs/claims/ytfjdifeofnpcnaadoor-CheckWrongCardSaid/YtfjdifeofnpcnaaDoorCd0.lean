/-
  Layer 3: the reference's Valid.
-/
import Derived.Test.YtfjdifeofnpcnaaDoorCb

namespace Go.Proofs.YtfjdifeofnpcnaaDoor

open Go Go.LX
set_option maxRecDepth 100000
set_option linter.unusedVariables false
set_option linter.unusedSimpArgs false

theorem within_lx (v m : Int) : CallF (fun _ => Tryd.prog) 63 [.p (.int .i64 (.sym v)), .p (.int .i64 (.lit m))] [] 0 (fun r h n => (∃ b : Bool, r = .p (.bool b) ∧ (b = true ↔ 0 ≤ v ∧ v < m)) ∧ h = [] ∧ n = 0) := by
  refine callF_of_body tok Tryd.func63 (by kernel_rfl) rfl rfl rfl ?_; conv => cbv
  refine Br.mk (fun g => ?_) (fun g => ?_)
  · have g : 0 ≤ v := g
    conv => cbv
    refine Br.mk (fun g2 => ?_) (fun g2 => ?_)
    · have g2 : v < m := g2
      conv => cbv
      refine RetF.mk [.p (.bool true)] [] 0 (Re.at [] []) rfl ⟨⟨true, rfl, by simp [g, g2]⟩, rfl, rfl⟩
    · have g2 : ¬ v < m := g2
      conv => cbv
      refine RetF.mk [.p (.bool false)] [] 0 (Re.at [] []) rfl ⟨⟨false, rfl, by simp only [Bool.false_eq_true, false_iff]; exact fun h => g2 h.2⟩, rfl, rfl⟩
  · have g : ¬ 0 ≤ v := g
    conv => cbv
    refine RetF.mk [.p (.bool false)] [] 0 (Re.at [] []) rfl ⟨⟨false, rfl, by simp only [Bool.false_eq_true, false_iff]; exact fun h => g h.1⟩, rfl, rfl⟩
theorem forms_cover (op : Int) (h : 1 ≤ op ∧ op ≤ 22) (h21 : op ≠ 21) : ∃ (i : Nat) (f : Fm), formsL[i]? = some f ∧ f.op = op := by
  have key : ∀ q : Fin 22, (q.val : Int) + 1 ≠ 21 → ∃ i : Fin 21, (formsL[i.val]'(show i.val < 21 from i.isLt)).op = (q.val : Int) + 1 := by decide +kernel
  obtain ⟨i, hi⟩ := key ⟨(op - 1).toNat, by omega⟩ (by show (((op - 1).toNat : Nat) : Int) + 1 ≠ 21; omega)
  exact ⟨i.val, _, List.getElem?_eq_getElem (show i.val < 21 from i.isLt), by rw [hi]; show (((op - 1).toNat : Nat) : Int) + 1 = op; omega⟩
theorem forms_args (i : Nat) (f : Fm) (h : formsL[i]? = some f) : (f.args = [97, 98] ∧ shapeV f.op = [97, 98]) ∨ (f.args = [97, 78] ∧ shapeV f.op = [97, 110]) ∨ (f.args = [78] ∧ shapeV f.op = [110]) ∨ (f.args = [97] ∧ shapeV f.op = [97]) ∨ (f.args = [110, 97] ∧ shapeV f.op = [100, 97]) ∨ (f.args = [] ∧ shapeV f.op = []) := by
  have hi : i < 21 := (List.getElem?_eq_some_iff.1 h).1
  have key : ∀ i : Fin 21, let f := (formsL[i.val]'(show i.val < 21 from i.isLt)); (f.args = [97, 98] ∧ shapeV f.op = [97, 98]) ∨ (f.args = [97, 78] ∧ shapeV f.op = [97, 110]) ∨ (f.args = [78] ∧ shapeV f.op = [110]) ∨ (f.args = [97] ∧ shapeV f.op = [97]) ∨ (f.args = [110, 97] ∧ shapeV f.op = [100, 97]) ∨ (f.args = [] ∧ shapeV f.op = []) := by decide +kernel
  have := key ⟨i, hi⟩
  rw [← (List.getElem?_eq_some_iff.1 h).2]
  exact this
theorem forms_op (i : Nat) (f : Fm) (h : formsL[i]? = some f) : 1 ≤ f.op ∧ f.op ≤ 22 := by
  have hi : i < 21 := (List.getElem?_eq_some_iff.1 h).1
  have key : ∀ i : Fin 21, 1 ≤ (formsL[i.val]'(show i.val < 21 from i.isLt)).op ∧ (formsL[i.val]'(show i.val < 21 from i.isLt)).op ≤ 22 := by decide +kernel
  have := key ⟨i, hi⟩
  rw [← (List.getElem?_eq_some_iff.1 h).2]
  exact this
theorem shp_iff (X : Is) (h : 1 ≤ X.op ∧ X.op ≤ 22) (h21 : X.op ≠ 21) (hcs : X.cs = []) : Shp X ↔ (if (97 : UInt8) ∈ shapeV X.op then 0 ≤ X.a ∧ X.a ≤ 5 else X.a = 0) ∧ (if (98 : UInt8) ∈ shapeV X.op then 0 ≤ X.b ∧ X.b ≤ 5 else X.b = 0) ∧
    (if (110 : UInt8) ∈ shapeV X.op then 0 ≤ X.n ∧ X.n ≤ 9999 else if (100 : UInt8) ∈ shapeV X.op then 0 ≤ X.n ∧ X.n ≤ 9 else X.n = 0) := by
  constructor
  · intro hs
    unfold Shp at hs
    rw [if_neg h21] at hs
    have h3 := hs.2.2
    have ga : X.f.get 97 = X.a := rfl
    have gb : X.f.get 98 = X.b := rfl
    have gn : X.f.get 110 = X.n := rfl
    have gd : X.f.get 100 = X.n := rfl
    rcases shape_cases X.op with e | e | e | e | e | e <;> rw [e] at h3 ⊢
    · have q1 := h3.1 97 (by simp); have q2 := h3.1 98 (by simp); have q3 := h3.2 110 (by decide)
      rw [ga] at q1; rw [gb] at q2; rw [gn] at q3
      simp [inR] at q1 q2 ⊢; omega
    · have q1 := h3.1 97 (by simp); have q2 := h3.2 98 (by decide); have q3 := h3.1 110 (by simp)
      rw [ga] at q1; rw [gb] at q2; rw [gn] at q3
      simp [inR] at q1 q3 ⊢; omega
    · have q1 := h3.2 97 (by decide); have q2 := h3.2 98 (by decide); have q3 := h3.1 110 (by simp)
      rw [ga] at q1; rw [gb] at q2; rw [gn] at q3
      simp [inR] at q3 ⊢; omega
    · have q1 := h3.1 97 (by simp); have q2 := h3.2 98 (by decide); have q3 := h3.2 110 (by decide)
      rw [ga] at q1; rw [gb] at q2; rw [gn] at q3
      simp [inR] at q1 ⊢; omega
    · have q1 := h3.1 97 (by simp); have q2 := h3.2 98 (by decide); have q3 := h3.1 100 (by simp)
      rw [ga] at q1; rw [gb] at q2; rw [gd] at q3
      simp [inR] at q1 q3 ⊢; omega
    · have q1 := h3.2 97 (by decide); have q2 := h3.2 98 (by decide); have q3 := h3.2 110 (by decide)
      rw [ga] at q1; rw [gb] at q2; rw [gn] at q3
      simp; omega
  · rintro ⟨p1, p2, p3⟩
    have := shp_mk X.op X.a X.b X.n h h21 p1 p2 p3
    have e : X = ⟨X.op, X.a, X.b, X.n, []⟩ := by cases X; simp only at hcs; subst hcs; rfl
    rw [e]; exact this
def BndP (x : Is) : Prop := (x.op = 4 → x.n ≤ 3) ∧ (x.op = 14 → x.n ≤ 1000) ∧ (x.op = 20 → x.n ≤ 9) ∧ (x.op = 18 ∨ x.op = 19 → x.n < 4)
theorem bounded1_lx (X : Is) (op a b n : Int) (h1 : op = X.op) (h4 : n = X.n) : CallF (fun _ => Tryd.prog) 41 [.agg [.p (.int .i64 (.sym op)), .p (.int .i64 (.sym a)), .p (.int .i64 (.sym b)), .p (.int .i64 (.sym n)), .p (.vsl (.sym 0) true [])]] [] 0 (fun r h n' => (∃ q : Bool, r = .p (.bool q) ∧ (q = true ↔ BndP X)) ∧ h = [] ∧ n' = 0) := by
  have hb : BndP X ↔ (op = 4 → n ≤ 3) ∧ (op = 14 → n ≤ 1000) ∧ (op = 20 → n ≤ 9) ∧ (op = 18 ∨ op = 19 → n < 4) := by unfold BndP; rw [h1, h4]
  refine callF_of_body tok Tryd.func41 (by kernel_rfl) rfl rfl rfl ?_; conv => cbv
  iterate 5
    refine Br.mk (fun g => ?_) (fun g => ?_)
    case refine_1 =>
      simp only [I.val] at g
      conv => cbv
      refine Br.mk (fun g2 => ?_) (fun g2 => ?_)
      · simp only [I.val] at g2
        have hy : BndP X := by rw [hb]; omega
        conv => cbv
        refine RetF.mk [.p (.bool true)] [] 0 (Re.at [] []) rfl ⟨⟨true, rfl, by simp [hy]⟩, rfl, rfl⟩
      · simp only [I.val] at g2
        have hn : ¬ BndP X := by rw [hb]; omega
        conv => cbv
        refine RetF.mk [.p (.bool false)] [] 0 (Re.at [] []) rfl ⟨⟨false, rfl, by simp only [Bool.false_eq_true, false_iff]; exact hn⟩, rfl, rfl⟩
    simp only [I.val] at g
    conv => cbv
  have hy : BndP X := by rw [hb]; omega
  first
  | refine RetF.mk [.p (.bool true)] [] 0 (Re.at [] []) rfl ⟨⟨true, rfl, by simp [hy]⟩, rfl, rfl⟩
  | (refine Br.yes (by show (0 : Int) ≤ 3; decide) ?_
     conv => cbv
     refine RetF.mk [.p (.bool true)] [] 0 (Re.at [] []) rfl ⟨⟨true, rfl, by simp [hy]⟩, rfl, rfl⟩)
end Go.Proofs.YtfjdifeofnpcnaaDoor
