/-
  Layer 2: what the reference writes of any instruction, in pure words.
-/
import Derived.Test.YtfjdifeofnpcnaaDoorEa

import Derived.Test.YtfjdifeofnpcnaaDoorCd0

namespace Go.Proofs.YtfjdifeofnpcnaaDoor

open Go Go.LX
set_option maxRecDepth 100000
set_option linter.unusedVariables false
set_option linter.unusedSimpArgs false
def wF (args : List UInt8) (x : Is) : List UInt8 := args.flatMap fun c => if c = 97 then letL x.a else if c = 98 then letL x.b else Lib.itoa x.n
def wC (c : Cs) : List UInt8 := (if c.k = 1 then 115 :: (letL c.ch ++ letL c.reg) else if c.k = 2 then 114 :: (letL c.ch ++ letL c.reg) else [101]) ++ Lib.itoa c.to
def wrR (x : Is) : List UInt8 := if x.op = 21 then 83 :: x.cs.flatMap wC else match formsL.find? (fun f => decide (f.op = x.op)) with
  | some f => f.letter :: wF f.args x
  | none => [63]
theorem letL_clean (v : Int) : Clean (letL v) ∧ (letL v).length = 1 := by
  unfold letL
  split
  · refine ⟨fun c hc => ?_, rfl⟩
    obtain rfl : c = regB v := by simpa using hc
    have := regB_nat (v := v) (by omega) (by omega)
    omega
  · refine ⟨fun c hc => ?_, rfl⟩
    obtain rfl : c = 63 := by simpa using hc
    decide
theorem clean_flat {α : Type} {f : α → List UInt8} : ∀ (l : List α), (∀ x ∈ l, Clean (f x)) → Clean (l.flatMap f)
  | [], _ => by intro c hc; simp at hc
  | x :: l, h => by rw [List.flatMap_cons]; exact clean_app (h x (by simp)) (clean_flat l (fun y hy => h y (by simp [hy])))
theorem wF_clean (args : List UInt8) (x : Is) : Clean (wF args x) := by
  refine clean_flat _ (fun c _ => ?_)
  split
  · exact (letL_clean _).1
  split
  · exact (letL_clean _).1
  · exact itoa_clean _
theorem wC_clean (c : Cs) : Clean (wC c) := by
  unfold wC
  refine clean_app ?_ (itoa_clean _)
  split
  · exact clean_cons (by decide) (clean_app (letL_clean _).1 (letL_clean _).1)
  split
  · exact clean_cons (by decide) (clean_app (letL_clean _).1 (letL_clean _).1)
  · exact clean_cons (by decide) (by intro c hc; simp at hc)
theorem forms_letter (f : Fm) (h : f ∈ formsL) : f.letter = signB f.op ∧ 33 ≤ f.letter.toNat ∧ f.letter.toNat ≤ 126 := by
  have key : ∀ f ∈ formsL, f.letter = signB f.op ∧ 33 ≤ f.letter.toNat ∧ f.letter.toNat ≤ 126 := by decide +kernel
  exact key f h
theorem wr_clean (x : Is) : Clean (wrR x) ∧ wrR x ≠ [] := by
  unfold wrR
  split
  · exact ⟨clean_cons (by decide) (clean_flat _ (fun c _ => wC_clean c)), by simp⟩
  split
  · rename_i f hf
    exact ⟨clean_cons (forms_letter f (List.mem_of_find?_eq_some hf)).2 (wF_clean _ _), by simp⟩
  · exact ⟨clean_cons (by decide) (by intro c hc; simp at hc), by simp⟩
theorem letL_in {v : Int} (h : 0 ≤ v ∧ v ≤ 5) : letL v = [regB v] := by unfold letL; rw [if_pos (by omega)]
theorem case_shp {c : Cs} (h : (c.k = 1 ∨ c.k = 2 ∨ c.k = 3) ∧ Shp3 (cshape c.k) c.f) : wC c = caseL c := by
  obtain ⟨hk, h1, h2⟩ := h
  unfold wC caseL caseB cshape at *
  rcases hk with hk | hk | hk <;> rw [hk] at h1 h2 ⊢
  · have ha : 0 ≤ c.ch ∧ c.ch ≤ 5 := by simpa [inR, F3.get, Cs.f] using h1 97 (by simp)
    have hb : 0 ≤ c.reg ∧ c.reg ≤ 5 := by simpa [inR, F3.get, Cs.f] using h1 98 (by simp)
    simp [fieldsL, partL, F3.get, Cs.f, letL_in ha, letL_in hb]
  · have ha : 0 ≤ c.ch ∧ c.ch ≤ 5 := by simpa [inR, F3.get, Cs.f] using h1 97 (by simp)
    have hb : 0 ≤ c.reg ∧ c.reg ≤ 5 := by simpa [inR, F3.get, Cs.f] using h1 98 (by simp)
    simp [fieldsL, partL, F3.get, Cs.f, letL_in ha, letL_in hb]
  · simp [fieldsL, partL, F3.get, Cs.f]
theorem cases_shp : ∀ (l : List Cs), CShpL l → l.flatMap wC = l.flatMap caseL
  | [], _ => rfl
  | c :: l, h => by rw [List.flatMap_cons, List.flatMap_cons, case_shp ⟨h.1.1, h.1.2.1⟩, cases_shp l h.2]
theorem wF_shp {f : Fm} {x : Is} (hf : f ∈ formsL) (h : Shp3 (shapeV f.op) x.f) : wF f.args x = fieldsL (shapeV f.op) x.f := by
  obtain ⟨i, hi⟩ := List.getElem?_of_mem hf
  have ha : 97 ∈ shapeV f.op → letL x.a = [regB x.a] := fun hm => letL_in (by simpa [inR, F3.get, Is.f] using h.1 97 hm)
  have hb : 98 ∈ shapeV f.op → letL x.b = [regB x.b] := fun hm => letL_in (by simpa [inR, F3.get, Is.f] using h.1 98 hm)
  rcases forms_args i f hi with ⟨e1, e2⟩ | ⟨e1, e2⟩ | ⟨e1, e2⟩ | ⟨e1, e2⟩ | ⟨e1, e2⟩ | ⟨e1, e2⟩ <;> rw [e2] at ha hb <;> rw [e1, e2] <;> simp at ha hb <;> simp [wF, fieldsL, partL, F3.get, Is.f, *]
theorem wr_shp {x : Is} (h : Shp x) : wrR x = lineOf x := by
  unfold Shp at h
  unfold wrR lineOf
  split at h
  · rename_i ho
    rw [if_pos ho, if_pos ho, ho, cases_shp _ h.2.2.2.2]; rfl
  · rename_i ho
    rw [if_neg ho, if_neg ho]
    obtain ⟨i, f, hf, hfo⟩ := forms_cover x.op h.1 ho
    cases hfd : formsL.find? (fun f => decide (f.op = x.op)) with
    | none =>
      have := List.find?_eq_none.1 hfd f (List.mem_of_getElem? hf)
      simp [hfo] at this
    | some f2 =>
      have h1 := List.mem_of_find?_eq_some hfd
      have h2 : f2.op = x.op := by simpa using List.find?_some hfd
      show f2.letter :: wF f2.args x = _
      rw [(forms_letter f2 h1).1, h2, wF_shp h1 (by rw [h2]; exact h.2.2), h2]
theorem wr_len (x : Is) (hn : I64 x.n) (hc : ∀ c ∈ x.cs, I64 c.to) : (wrR x).length ≤ 24 * x.cs.length + 106 := by
  unfold wrR
  split
  · rw [List.length_cons]
    have : ∀ l : List Cs, (∀ c ∈ l, I64 c.to) → (l.flatMap wC).length ≤ 24 * l.length := by
      intro l
      induction l with
      | nil => intro _; simp
      | cons c l ih =>
        intro h
        have h1 := ih (fun d hd => h d (by simp [hd]))
        have h2 := itoa_len21 c.to (h c (by simp))
        have h3 := (letL_clean c.ch).2
        have h4 := (letL_clean c.reg).2
        rw [List.flatMap_cons, List.length_append, List.length_cons]
        have : (wC c).length ≤ 24 := by
          unfold wC
          rw [List.length_append]
          split
          · simp [h3, h4]; omega
          split
          · simp [h3, h4]; omega
          · simp; omega
        omega
    have := this x.cs hc
    omega
  split
  · rename_i f hf
    obtain ⟨i, hi⟩ := List.getElem?_of_mem (List.mem_of_find?_eq_some hf)
    have h5 := (forms_fact i f hi).2.2.2.2
    have : ∀ l : List UInt8, (wF l x).length ≤ 21 * l.length := by
      intro l
      induction l with
      | nil => simp [wF]
      | cons c l ih =>
        have h2 := itoa_len21 x.n hn
        have h3 := (letL_clean x.a).2
        have h4 := (letL_clean x.b).2
        unfold wF at ih ⊢
        rw [List.flatMap_cons, List.length_append, List.length_cons]
        have : (if c = 97 then letL x.a else if c = 98 then letL x.b else Lib.itoa x.n).length ≤ 21 := by
          split
          · omega
          split
          · omega
          · exact h2
        omega
    have := this f.args
    rw [List.length_cons]
    omega
  · simp
end Go.Proofs.YtfjdifeofnpcnaaDoor
