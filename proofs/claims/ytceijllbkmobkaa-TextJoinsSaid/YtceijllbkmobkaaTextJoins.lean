/-
  Law 1, TextJoins: lines, joined, are lines again, with blanks and empty lines wherever they stand.
-/
import Derived.Test.YtceijllbkmobkaaRows
import Derived.Test.YtceijllbkmobkaaLem
import Derived.Test.YtceijllbkmobkaaTjd
import Derived.Test.YtceijllbkmobkaaLxO
import Derived.Test.YtceijllbkmobkaaOpen
import Derived.WideKeyArgs
import Derived.WalkKit
import Derived.ProofKit
import Derived.OpenShut
import Derived.Handy
import Derived.Outline
namespace Go.Proofs.Ytceijllbkmobkaa.textJoins
open Go.ChangeShapes Go.WideShapes Go.ChangeAt Go.ChangeMaps Go.RowKit
set_option linter.unusedVariables false

theorem own : ownKnob Try.prog.godebug = none := by kernel_rfl

theorem i64_of {a : Int} (h : (Lit.int .i64 a).wf = true) : -9223372036854775808 ≤ a ∧ a ≤ 9223372036854775807 := by
  simpa [Lit.wf, IntKind.min, IntKind.max, IntKind.signed, IntKind.bits] using h
theorem vsl_strs {w : World} {v : Value} {ss : List ByteArray} (h : Sl w w.heap.size 1 v ss.length (ss.map Value.string)) : LX.LR LX.Ctx.empty w (.p (.vsl (.sym (ss.length : Int)) true (ss.map fun x => LX.PV.str fun _ => x))) v := by
  refine vsl_gen Nat.one_pos h rfl (by simp) fun j u hu => ?_
  rw [List.getElem?_map] at hu
  cases hz : ss[j]? with
  | none => rw [hz] at hu; cases hu
  | some z =>
    rw [hz] at hu
    cases hu
    exact ⟨.string z, by rw [List.getElem?_map, hz]; rfl, .str _⟩
theorem walk (w : World) (v0 : Value) (ss : List ByteArray) (s0 : Sl w w.heap.size 1 v0 ss.length (ss.map Value.string)) (z0 : ∀ s ∈ ss, s.size ≤ maxLen) (v1 : Value) (zs : List Int) (s1 : Sl w w.heap.size 1 v1 zs.length (zs.map (Value.int .i64))) (z1 : ∀ n ∈ zs, (Lit.int .i64 n).wf = true) :
    Calls Try.prog 3 #[v0, v1] w fun e w' => e = .returned (.bool true) ∧ Below w.heap.size w w' := by
  have hmax0 := s0.max
  have hmax1 := s1.max
  have hz0 : ∀ x ∈ ss, (x.size : Int) ≤ 9223372036854775807 := fun x hx => by have := z0 x hx; unfold maxLen at this; omega
  refine LX.law_of (textJoins_law ss zs ss.length zs.length (ss.map fun x => LX.PV.str fun _ => x) (zs.map fun z => LX.PV.int .i64 (.sym z)) rfl (fun i x h => by rw [List.getElem?_map, h]; rfl) hz0 rfl rfl (fun z hz => i64_of (z1 z hz)) (by unfold maxLen at hmax0; omega) (by unfold maxLen at hmax1; omega)) (LX.Rel2.cons (vsl_strs s0) (LX.Rel2.cons (vsl_ints s1 rfl rfl) LX.Rel2.nil))

set_option maxRecDepth 100000 in
theorem lifted (os : Os) (started : os.Started) (H : Type) (enc : TypeId × Value → H) :
    ReturnsInHanded {} Try.checked os 3 .any (Rows.textJoinsSpec.pre6 enc Try.prog Try.f3 Rows.textJoinsRow.domain false) (Rows.textJoinsSpec.post enc Try.prog Try.f3 false true false false) := by
  refine returnsInHanded_of_change (C := Try.checked) own started (by kernel_rfl) Try.func3
    (ChangeSpec.witness6 (enc := enc) (C := Try.checked) false ⟨#[], #[.slice none 0 0, .slice none 0 0], []⟩ 8 (by kernel_rfl) (by kernel_rfl) (by kernel_rfl) (by kernel_rfl)) ?_
  intro W base args ds gs before hval0 hW hcnd _
  have hval : ∀ (j : Nat) t v, Try.f3.params[j]? = some t → args[j]? = some v → Value.okWide Try.prog W .any base t v := hval0
  have hW' := hW
  obtain ⟨p, q, hA0, hV, rfl, hfz, hnd⟩ := hW
  have hA : DataW.TrodAll enc Try.prog W 0 (fun _ => true) true Try.f3.params.toList args.toList ds p := hA0
  rw [Try.params3] at hA hval
  obtain ⟨v0, vs0, d0, ds0, p0, q0, hargs, rfl, rfl, h0, r0⟩ := trodAll_cons hA
  obtain ⟨v1, vs1, d1, ds1, p1, q1, rfl, rfl, rfl, h1, r1⟩ := trodAll_cons r0
  obtain ⟨rfl, rfl, rfl⟩ := trodAll_nil r1
  obtain rfl : args = #[v0, v1] := by cases args; simp_all
  obtain ⟨rfl, rfl⟩ := trodVars_none hV
  obtain ⟨a0, w0, b0⟩ := open_strs_sl Try.underlying22 Try.underlying9 (by kernel_rfl) (hval 0 22 v0 rfl rfl) h0
  obtain ⟨a1, w1, b1⟩ := open_ints_sl Try.underlying23 Try.underlying3 (by kernel_rfl) (hval 1 23 v1 rfl rfl) h1
  clear hA0 hval0
  simp only [List.append_nil] at hW'
  refine (walk W v0 a0 w0 b0 v1 a1 w1 b1).mono fun e W' ⟨he, hg⟩ => ?_
  subst he
  have hlaid : laidOutB Try.prog = true := by kernel_rfl
  have hlt := hW'.lt
  exact ⟨_, rfl, law_post (pa := p0 ++ (p1 ++ ([]))) (pv := []) hW' (fun _ _ _ => (trodAll_cons_mk (shut_bool Try.underlying4 _) trodAll_mk0)) (fun sp hsp => (trodAll_cons_mk (WideElems.Trod_stays hlaid (by kernel_rfl) (of_decide_eq_true (by kernel_rfl)) h0 (fun x hx => hg.same (hlt x (by simp [hx]))) (fun x hx => hsp x (by simp [hx]))) (trodAll_cons_mk (WideElems.Trod_stays hlaid (by kernel_rfl) (of_decide_eq_true (by kernel_rfl)) h1 (fun x hx => hg.same (hlt x (by simp [hx]))) (fun x hx => hsp x (by simp [hx]))) trodAll_mk0))) (fun _ _ => rfl) (by simp)
    hg (ok_one (by kernel_rfl) rfl (okWide_bool_mk Try.underlying4 _))⟩

theorem over : Rows.textJoinsRow.holds Try.pinned (OpenSpec.ofChange Rows.textJoinsSpec) :=
  OpenClaim.holds_of_wide 3 Try.f3 rfl rfl rfl rfl rfl rfl rfl ⟨rfl, rfl, rfl, rfl, rfl⟩ rfl rfl rfl rfl rfl (by kernel_rfl) Try.func3 (by kernel_rfl)
    (of_decide_eq_true (by kernel_rfl)) (by unfold Func.isWrapper; first | (rw [if_pos (by decide +kernel)]; kernel_rfl) | (rw [if_neg (by decide +kernel)]; exact ⟨rfl, rfl⟩))
    (fun os started H enc _ => lifted os started H enc)

theorem proved : Rows.TextJoinsSaid :=
  over
#print axioms proved
end Go.Proofs.Ytceijllbkmobkaa.textJoins
