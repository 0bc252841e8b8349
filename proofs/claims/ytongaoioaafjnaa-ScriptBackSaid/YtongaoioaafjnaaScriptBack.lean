/-
  Law 27, ScriptBack: what is bytes is entries again; any bytes' entries are bytes again, of the same entries.
-/
import Derived.Test.YtongaoioaafjnaaRows
import Derived.Test.YtongaoioaafjnaaLem
import Derived.Test.YtongaoioaafjnaaScX
import Derived.Test.YtongaoioaafjnaaLxP
import Derived.WalkKit
import Derived.ProofKit
import Derived.OpenShut
import Derived.Handy
import Derived.Outline
namespace Go.Proofs.Ytongaoioaafjnaa.scriptBack
open Go.ChangeShapes Go.WideShapes Go.ChangeAt Go.ChangeMaps Go.RowKit
set_option linter.unusedVariables false

theorem own : ownKnob Try.prog.godebug = none := by kernel_rfl

theorem u8_bd {x : Int} (h : (Lit.int .u8 x).wf = true) : 0 ≤ x ∧ x < 256 := by
  have : 0 ≤ x ∧ x ≤ 255 := by simpa [Lit.wf, IntKind.min, IntKind.max, IntKind.signed, IntKind.bits] using h
  omega
theorem u8s_map : ∀ l : List Int, u8s l = l.map fun z => LX.PV.int .u8 (.sym z)
  | [] => rfl
  | x :: l => by simp [u8s, u8s_map l]
theorem ents_rel {w : World} {M : Nat → Prop} : ∀ (A : List (Int × Int × Int)) (j : Nat) (u : LX.PV), (ents A)[j]? = some u → ∃ x, (A.flatMap fun e => [Value.int .i64 e.1, .int .i64 e.2.1, .int .i64 e.2.2])[j]? = some x ∧ LX.PR M w u x
  | [], j, u, h => by simp [ents] at h
  | (a, b, c) :: A, j, u, h => by
    rw [ents] at h
    rw [List.flatMap_cons]
    rcases j with _ | _ | _ | j
    · simp at h; subst h; exact ⟨.int .i64 a, rfl, .int _ _ _ rfl⟩
    · simp at h; subst h; exact ⟨.int .i64 b, rfl, .int _ _ _ rfl⟩
    · simp at h; subst h; exact ⟨.int .i64 c, rfl, .int _ _ _ rfl⟩
    · obtain ⟨x, h1, h2⟩ := ents_rel A j u (by simpa using h)
      exact ⟨x, by simpa using h1, h2⟩
theorem walk (w : World) (v1 : Value) (a1 : List (Int × Int × Int)) (w1 : Sl w w.heap.size 3 v1 a1.length (a1.flatMap fun e => [.int .i64 e.1, .int .i64 e.2.1, .int .i64 e.2.2])) (b1 : ∀ e ∈ a1, (Lit.int .i64 e.1).wf = true ∧ (Lit.int .i64 e.2.1).wf = true ∧ (Lit.int .i64 e.2.2).wf = true) (v0 : Value) (a0 : List Int) (w0 : Sl w w.heap.size 1 v0 a0.length (a0.map (Value.int .u8))) (b0 : ∀ n ∈ a0, (Lit.int .u8 n).wf = true) :
    Calls Try.prog 5 #[v1, v0] w fun e w' => e = .returned (.bool true) ∧ Below w.heap.size w w' := by
  refine LX.law_of (scriptBack_lx a1 a0 a1.length a0.length (ents a1) (u8s a0) rfl rfl rfl rfl (fun x hx => u8_bd (b0 x hx))) (LX.Rel2.cons (vsl_gen (by decide) w1 rfl (by rw [ents_length]; omega) (ents_rel a1)) (LX.Rel2.cons (vsl_ints w0 rfl (u8s_map a0)) LX.Rel2.nil))

set_option maxRecDepth 100000 in
theorem lifted (os : Os) (started : os.Started) (H : Type) (enc : TypeId × Value → H) :
    ReturnsInHanded {} Try.checked os 5 .any (Rows.scriptBackSpec.pre6 enc Try.prog Try.f5 Rows.scriptBackRow.domain false) (Rows.scriptBackSpec.post enc Try.prog Try.f5 false true false false) := by
  refine returnsInHanded_of_change (C := Try.checked) own started (by kernel_rfl) Try.func5
    (ChangeSpec.witness6 (enc := enc) (C := Try.checked) false ⟨#[], #[.slice none 0 0, .slice none 0 0], []⟩ 8 (by kernel_rfl) (by kernel_rfl) (by kernel_rfl) (by kernel_rfl)) ?_
  intro W base args ds gs before hval0 hW hcnd _
  have hval : ∀ (j : Nat) t v, Try.f5.params[j]? = some t → args[j]? = some v → Value.okWide Try.prog W .any base t v := hval0
  have hW' := hW
  obtain ⟨p, q, hA0, hV, rfl, hfz, hnd⟩ := hW
  have hA : DataW.TrodAll enc Try.prog W 0 (fun _ => true) true Try.f5.params.toList args.toList ds p := hA0
  rw [Try.params5] at hA hval
  obtain ⟨v0, vs0, d0, ds0, p0, q0, hargs, rfl, rfl, h0, r0⟩ := trodAll_cons hA
  obtain ⟨v1, vs1, d1, ds1, p1, q1, rfl, rfl, rfl, h1, r1⟩ := trodAll_cons r0
  obtain ⟨rfl, rfl, rfl⟩ := trodAll_nil r1
  obtain rfl : args = #[v0, v1] := by cases args; simp_all
  obtain ⟨rfl, rfl⟩ := trodVars_none hV
  obtain ⟨a0, w0, b0⟩ := open_threes Try.underlying32 (by kernel_rfl) (hval 0 32 v0 rfl rfl) h0
  obtain ⟨a1, w1, b1⟩ := open_ints_sl Try.underlying24 Try.underlying5 (by kernel_rfl) (hval 1 24 v1 rfl rfl) h1
  clear hA0 hval0
  simp only [List.append_nil] at hW'
  refine (walk W v0 a0 w0 b0 v1 a1 w1 b1).mono fun e W' ⟨he, hg⟩ => ?_
  subst he
  have hlaid : laidOutB Try.prog = true := by kernel_rfl
  have hlt := hW'.lt
  exact ⟨_, rfl, law_post (pa := p0 ++ (p1 ++ ([]))) (pv := []) hW' (fun _ _ _ => (trodAll_cons_mk (shut_bool Try.underlying4 _) trodAll_mk0)) (fun sp hsp => (trodAll_cons_mk (WideElems.Trod_stays hlaid (by kernel_rfl) (of_decide_eq_true (by kernel_rfl)) h0 (fun x hx => hg.same (hlt x (by simp [hx]))) (fun x hx => hsp x (by simp [hx]))) (trodAll_cons_mk (WideElems.Trod_stays hlaid (by kernel_rfl) (of_decide_eq_true (by kernel_rfl)) h1 (fun x hx => hg.same (hlt x (by simp [hx]))) (fun x hx => hsp x (by simp [hx]))) trodAll_mk0))) (fun _ _ => rfl) (by simp)
    hg (ok_one (by kernel_rfl) rfl (okWide_bool_mk Try.underlying4 _))⟩

theorem over : Rows.scriptBackRow.holds Try.pinned (OpenSpec.ofChange Rows.scriptBackSpec) :=
  OpenClaim.holds_of_wide 5 Try.f5 rfl rfl rfl rfl rfl rfl rfl ⟨rfl, rfl, rfl, rfl, rfl⟩ rfl rfl rfl rfl rfl (by kernel_rfl) Try.func5 (by kernel_rfl)
    (of_decide_eq_true (by kernel_rfl)) (by unfold Func.isWrapper; first | (rw [if_pos (by decide +kernel)]; kernel_rfl) | (rw [if_neg (by decide +kernel)]; exact ⟨rfl, rfl⟩))
    (fun os started H enc _ => lifted os started H enc)

theorem proved : Rows.ScriptBackSaid :=
  over
#print axioms proved
end Go.Proofs.Ytongaoioaafjnaa.scriptBack
