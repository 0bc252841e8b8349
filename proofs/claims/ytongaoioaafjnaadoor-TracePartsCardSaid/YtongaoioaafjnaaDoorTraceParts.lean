/-
  Law 26, TraceParts: of two rows, one behind the other, all is one behind the other; what is visible is visible again.
-/
import Derived.Test.YtongaoioaafjnaaDoorRows
import Derived.Test.YtongaoioaafjnaaDoorCards
import Derived.Test.YtongaoioaafjnaaDoorTie
import Derived.Test.YtongaoioaafjnaaDoorLem
import Derived.Test.YtongaoioaafjnaaDoorTe
import Derived.Test.YtongaoioaafjnaaDoorLxE
import Derived.WalkKit
import Derived.ProofKit
import Derived.OpenShut
import Derived.LaidMore
import Derived.MakeChecks
import Derived.Stop.Joined
import Derived.SevenTiedAt
import Derived.Handy
import Derived.Outline
namespace Go.Proofs.YtongaoioaafjnaaDoor.traceParts
open Go.ChangeShapes Go.WideShapes Go.ChangeAt Go.ChangeMaps Go.RowKit
set_option linter.unusedVariables false

theorem own : ownKnob Tryd.prog.godebug = none := by kernel_rfl

theorem i64_of {a : Int} (h : (Lit.int .i64 a).wf = true) : i64 a := by
  have : -9223372036854775808 ≤ a ∧ a ≤ 9223372036854775807 := by simpa [Lit.wf, IntKind.min, IntKind.max, IntKind.signed, IntKind.bits] using h
  exact this
theorem of_laid {W : World} (h : laidMetH Tryd.prog Rows.tracePartsRow.laid W) : ∃ o : Unit → Obj, W.heap[0]? = some (o ()) ∧ IsPow o := by
  rw [MakeChecks.laidMetH_plain _ _ _ (by kernel_rfl)] at h
  obtain ⟨ps, ⟨_, _, _, _, _, _, _, _, _, _, ⟨_, _, _, _, _, _, _, _, _, _, ⟨g, t, cs, fuel, p, q, hg, ht, hvar, hd, _, _⟩, _⟩, _⟩, _⟩ := h
  have hg2 : Tryd.prog.globalNamed "internal/strconv.uint64pow10" = some 0 := by kernel_rfl
  have hg : Tryd.prog.globalNamed "internal/strconv.uint64pow10" = some g := hg
  obtain rfl := Option.some.inj (hg2.symm.trans hg)
  have ht : (Tryd.prog.globals[0]?).map (·.type) = some t := ht
  have ht2 : (Tryd.prog.globals[0]?).map (·.type) = some 67 := by kernel_rfl
  obtain rfl := Option.some.inj (ht2.symm.trans ht)
  have e : (Rows.laid_internal_strconv_uint64pow10 : DataW Unit) = Lib.tabData .u64 Lib.pow10Tab := by kernel_rfl
  rw [e] at hd
  have hcs := Lib.cells_of_tab (n := 20) Tryd.underlying67 Tryd.underlying60 (by kernel_rfl) (by kernel_rfl) hd
  have hvar : W.var? Tryd.prog "internal/strconv.uint64pow10" = some cs := hvar
  unfold World.var? at hvar
  rw [hg2] at hvar
  simp only [Option.bind_some] at hvar
  split at hvar
  · rename_i cs' ty fr hh
    cases hvar
    refine ⟨fun _ => .cells cs ty fr, hh, ty, fr, ?_⟩
    show Obj.cells cs ty fr = _
    rw [← hcs, Array.toArray_toList]
  · cases hvar
theorem laid_of {k : Nat} {w : World} {u : LX.PV} {v : Value} (h : LX.LR LX.Ctx.empty w (.p u) v) : LX.LR (LX.Ctx.laid k) w (.p u) v := by
  cases h with
  | p _ _ hp => exact .p _ _ (hp.anti fun r h => (LX.laid_mut _ _ h).elim)
theorem evs_rel {w : World} {M : Nat → Prop} : ∀ (A : List Ev) (j : Nat) (u : LX.PV), (evs A)[j]? = some u → ∃ x, (A.flatMap fun e => [Value.int .i64 e.1, .int .i64 e.2.1, .int .i64 e.2.2.1, .bool e.2.2.2])[j]? = some x ∧ LX.PR M w u x
  | [], j, u, h => by simp [evs] at h
  | (a, b, c, f) :: A, j, u, h => by
    rw [evs] at h
    rw [List.flatMap_cons]
    rcases j with _ | _ | _ | _ | j
    · simp at h; subst h; exact ⟨.int .i64 a, rfl, .int _ _ _ rfl⟩
    · simp at h; subst h; exact ⟨.int .i64 b, rfl, .int _ _ _ rfl⟩
    · simp at h; subst h; exact ⟨.int .i64 c, rfl, .int _ _ _ rfl⟩
    · simp at h; subst h; exact ⟨.bool f, rfl, .bool _⟩
    · obtain ⟨x, h1, h2⟩ := evs_rel A j u (by simpa using h)
      exact ⟨x, by simpa using h1, h2⟩
theorem walk (w : World) (hL : laidMetH Tryd.prog Rows.tracePartsRow.laid w) (v0 : Value) (a0 : List (Int × Int × Int × Bool)) (w0 : Sl w w.heap.size 4 v0 a0.length (a0.flatMap fun e => [.int .i64 e.1, .int .i64 e.2.1, .int .i64 e.2.2.1, .bool e.2.2.2])) (b0 : ∀ e ∈ a0, (Lit.int .i64 e.1).wf = true ∧ (Lit.int .i64 e.2.1).wf = true ∧ (Lit.int .i64 e.2.2.1).wf = true) (v1 : Value) (a1 : List (Int × Int × Int × Bool)) (w1 : Sl w w.heap.size 4 v1 a1.length (a1.flatMap fun e => [.int .i64 e.1, .int .i64 e.2.1, .int .i64 e.2.2.1, .bool e.2.2.2])) (b1 : ∀ e ∈ a1, (Lit.int .i64 e.1).wf = true ∧ (Lit.int .i64 e.2.1).wf = true ∧ (Lit.int .i64 e.2.2.1).wf = true) :
    Calls Tryd.prog 3 #[v0, v1] w fun e w' => e = .returned (.bool true) ∧ Below w.heap.size w w' := by
  obtain ⟨o, ho, hp⟩ := of_laid hL
  refine LX.law_laid [(0, o)] (traceParts_law a0.length a1.length a0 a1 (evs a0) (evs a1) rfl rfl (fun e he => ⟨i64_of (b0 e he).1, i64_of (b0 e he).2.1, i64_of (b0 e he).2.2⟩) rfl rfl (fun e he => ⟨i64_of (b1 e he).1, i64_of (b1 e he).2.1, i64_of (b1 e he).2.2⟩) o hp) (fun g o' h => ?_) (LX.Rel2.cons (laid_of (vsl_gen (by decide) w0 rfl (by rw [evs_length]; omega) (evs_rel a0))) (LX.Rel2.cons (laid_of (vsl_gen (by decide) w1 rfl (by rw [evs_length]; omega) (evs_rel a1))) LX.Rel2.nil))
  cases List.mem_singleton.1 h
  exact ho

theorem door_met (os : Os) (args : Array Value) : laidMetH Tryd.prog Rows.tracePartsRow.laid ((World.doorLaid Tryd.prog 24 os).forCall (fun _ _ => 0) ⟨#[], args, []⟩).memory :=
  laidMetH_of_parts3 (fuel := 8) (laidMet_of_run' 8 (by kernel_rfl) (by kernel_rfl)) (by kernel_rfl) (by kernel_rfl)
set_option maxRecDepth 100000 in
theorem lifted (os : Os) (started : os.Started) (H : Type) (enc : TypeId × Value → H) :
    ReturnsInHanded {} Tryd.checked os 3 .any (fun w args => (Rows.tracePartsSpec.pre enc Tryd.prog Tryd.f3 [] false w args ∧ laidMetH Tryd.prog Rows.tracePartsRow.laid w) ∧ sizedMet enc Tryd.prog Tryd.f3 (OpenSpec.ofChange Rows.tracePartsSpec) false w args)
      (Rows.tracePartsSpec.post enc Tryd.prog Tryd.f3 false true false false) := by
  refine returnsInHanded_of_change_and (C := Tryd.checked) (X := fun w _ => laidMetH Tryd.prog Rows.tracePartsRow.laid w) (fun _ _ _ hh h => h.of_heap hh) own started (by kernel_rfl) Tryd.func3
    (ChangeSpec.witness_shaped (enc := enc) (C := Tryd.checked) (os := os) (X := fun w _ => laidMetH Tryd.prog Rows.tracePartsRow.laid w) false (World.doorLaid Tryd.prog 24 os) #[.slice none 0 0, .slice none 0 0] 8 rfl (World.shaped_of_RefB (by kernel_rfl) (by kernel_rfl)) (by kernel_rfl) (by kernel_rfl) (by kernel_rfl) (door_met os _)) ?_
  intro W base args ds gs before hval0 hW _ _ hL _
  have hval : ∀ (j : Nat) t v, Tryd.f3.params[j]? = some t → args[j]? = some v → Value.okWide Tryd.prog W .any base t v := hval0
  have hW' := hW
  obtain ⟨p, q, hA0, hV, rfl, hfz, hnd⟩ := hW
  have hA : DataW.TrodAll enc Tryd.prog W 0 (fun _ => true) true Tryd.f3.params.toList args.toList ds p := hA0
  rw [Tryd.params3] at hA hval
  obtain ⟨v0, vs0, d0, ds0, p0, q0, hargs, rfl, rfl, h0, r0⟩ := trodAll_cons hA
  obtain ⟨v1, vs1, d1, ds1, p1, q1, rfl, rfl, rfl, h1, r1⟩ := trodAll_cons r0
  obtain ⟨rfl, rfl, rfl⟩ := trodAll_nil r1
  obtain rfl : args = #[v0, v1] := by cases args; simp_all
  obtain ⟨rfl, rfl⟩ := trodVars_none hV
  obtain ⟨a0, w0, b0⟩ := open_events Tryd.underlying22 (by kernel_rfl) (hval 0 22 v0 rfl rfl) h0
  obtain ⟨a1, w1, b1⟩ := open_events Tryd.underlying22 (by kernel_rfl) (hval 1 22 v1 rfl rfl) h1
  clear hA0 hval0
  simp only [List.append_nil] at hW'
  refine (walk W hL v0 a0 w0 b0 v1 a1 w1 b1).mono fun e W' ⟨he, hg⟩ => ?_
  subst he
  have hlaid : laidOutB Tryd.prog = true := by kernel_rfl
  have hlt := hW'.lt
  exact ⟨_, rfl, law_post (pa := p0 ++ (p1 ++ ([]))) (pv := []) hW' (fun _ _ _ => (trodAll_cons_mk (shut_bool Tryd.underlying4 _) trodAll_mk0)) (fun sp hsp => (trodAll_cons_mk (WideElems.Trod_stays hlaid (by kernel_rfl) (of_decide_eq_true (by kernel_rfl)) h0 (fun x hx => hg.same (hlt x (by simp [hx]))) (fun x hx => hsp x (by simp [hx]))) (trodAll_cons_mk (WideElems.Trod_stays hlaid (by kernel_rfl) (of_decide_eq_true (by kernel_rfl)) h1 (fun x hx => hg.same (hlt x (by simp [hx]))) (fun x hx => hsp x (by simp [hx]))) trodAll_mk0))) (fun _ _ => rfl) (by simp)
    hg (ok_one (by kernel_rfl) rfl (okWide_bool_mk Tryd.underlying4 _))⟩

theorem over : Rows.TracePartsSaid :=
  OpenClaim.holds_of_wide 3 Tryd.f3 rfl rfl rfl rfl rfl rfl rfl ⟨rfl, rfl, rfl, rfl, rfl⟩ rfl rfl rfl rfl rfl (by kernel_rfl) Tryd.func3 (by kernel_rfl)
    (of_decide_eq_true (by kernel_rfl)) (by unfold Func.isWrapper; first | (rw [if_pos (by decide +kernel)]; kernel_rfl) | (rw [if_neg (by decide +kernel)]; exact ⟨rfl, rfl⟩))
    (fun os started H enc _ => lifted os started H enc)
theorem proved : Rows.TracePartsCardSaid :=
  Claim7.holds_tied_plain_at .later [] [.data, .data, .data] true (true, "46e2c9f3ea7fbe78cc6b37ea7de8fd8895446717c90dafc9c62768c968ebf571") true
    over (fun _ h => by cases h) (by kernel_rfl) (fun _ h => by cases h) traceParts_row_tie rfl ⟨rfl, rfl⟩ (by kernel_rfl) rfl
    (fun f fn hf hfn => by
      obtain rfl : f = 3 := Option.some.inj ((show Tryd.prog.funcNamed "dormouse/dormouselaw26.TraceParts" = some 3 by kernel_rfl).symm.trans hf) |>.symm
      obtain rfl : fn = Tryd.f3 := (Option.some.inj (Tryd.func3.symm.trans hfn)).symm
      exact ⟨by kernel_rfl, fun j t ht => by
        rw [Tryd.params3] at ht
        have hm : t ∈ [22, 22] := by simpa using Array.mem_of_getElem? ht
        have hall : ([22, 22].all fun u => !Tryd.prog.wantsStandIn u) = true := by kernel_rfl
        exact (show Tryd.prog.wantsStandIn t = false by simpa using List.all_eq_true.1 hall t hm)⟩)
    (by kernel_rfl)
#print axioms proved
end Go.Proofs.YtongaoioaafjnaaDoor.traceParts
