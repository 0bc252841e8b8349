/-
  Law 20, QueueOnce: nobody is there twice; who is removed, and comes again, is the last; a nil queue.
-/
import Derived.Test.YtocliihimbggjaaDoorRows
import Derived.Test.YtocliihimbggjaaDoorCards
import Derived.Test.YtocliihimbggjaaDoorTie
import Derived.Test.YtocliihimbggjaaDoorLem
import Derived.Test.YtocliihimbggjaaDoorQh
import Derived.Test.YtocliihimbggjaaDoorLxO
import Derived.WalkKit
import Derived.ProofKit
import Derived.OpenShut
import Derived.LaidMore
import Derived.MakeChecks
import Derived.Stop.Joined
import Derived.SevenTiedAt
import Derived.Handy
import Derived.Outline
namespace Go.Proofs.YtocliihimbggjaaDoor.queueOnce
open Go.ChangeShapes Go.WideShapes Go.ChangeAt Go.ChangeMaps Go.RowKit
set_option linter.unusedVariables false

theorem own : ownKnob Tryd.prog.godebug = none := by kernel_rfl

theorem i64_of {a : Int} (h : (Lit.int .i64 a).wf = true) : i64 a := by
  have : -9223372036854775808 ≤ a ∧ a ≤ 9223372036854775807 := by simpa [Lit.wf, IntKind.min, IntKind.max, IntKind.signed, IntKind.bits] using h
  exact this
theorem of_laid {W : World} (h : laidMetH Tryd.prog Rows.queueOnceRow.laid W) : ∃ o : Unit → Obj, W.heap[2]? = some (o ()) ∧ IsPow o := by
  rw [MakeChecks.laidMetH_plain _ _ _ (by kernel_rfl)] at h
  obtain ⟨ps, ⟨_, _, _, _, _, _, _, _, _, _, ⟨_, _, _, _, _, _, _, _, _, _, ⟨g, t, cs, fuel, p, q, hg, ht, hvar, hd, _, _⟩, _⟩, _⟩, _⟩ := h
  have hg2 : Tryd.prog.globalNamed "internal/strconv.uint64pow10" = some 2 := by kernel_rfl
  have hg : Tryd.prog.globalNamed "internal/strconv.uint64pow10" = some g := hg
  obtain rfl := Option.some.inj (hg2.symm.trans hg)
  have ht : (Tryd.prog.globals[2]?).map (·.type) = some t := ht
  have ht2 : (Tryd.prog.globals[2]?).map (·.type) = some 107 := by kernel_rfl
  obtain rfl := Option.some.inj (ht2.symm.trans ht)
  have e : (Rows.laid_internal_strconv_uint64pow10 : DataW Unit) = Lib.tabData .u64 Lib.pow10Tab := by kernel_rfl
  rw [e] at hd
  have hcs := Lib.cells_of_tab (n := 20) Tryd.underlying107 Tryd.underlying85 (by kernel_rfl) (by kernel_rfl) hd
  have hvar : W.var? Tryd.prog "internal/strconv.uint64pow10" = some cs := hvar
  unfold World.var? at hvar
  rw [hg2] at hvar
  simp only [Option.bind_some] at hvar
  split at hvar
  · rename_i cs' ty fr hh
    cases hvar
    refine ⟨fun _ => .cells cs ty fr, hh, ty, fr, ?_⟩
    show Obj.cells cs ty fr = _
    rw [← hcs, Array.toArray_toList]
  · cases hvar
theorem laid_of {k : Nat} {w : World} {u : LX.PV} {v : Value} (h : LX.LR LX.Ctx.empty w (.p u) v) : LX.LR (LX.Ctx.laid k) w (.p u) v := by
  cases h with
  | p _ _ hp => exact .p _ _ (hp.anti fun r h => (LX.laid_mut _ _ h).elim)
theorem walk (w : World) (hL : laidMetH Tryd.prog Rows.queueOnceRow.laid w) (v0 : Value) (a0 : List Int) (w0 : Sl w w.heap.size 1 v0 a0.length (a0.map (Value.int .i64))) (b0 : ∀ n ∈ a0, (Lit.int .i64 n).wf = true) (a1 : Int) (w1 : (Lit.int .i64 a1).wf = true) :
    Calls Tryd.prog 7 #[v0, .int .i64 a1] w fun e w' => e = .returned (.bool true) ∧ Below w.heap.size w w' := by
  obtain ⟨o, ho, hp⟩ := of_laid hL
  refine LX.law_laid [(2, o)] (queueOnce_law a0.length a1 a0 (ints a0) rfl rfl (fun x hx => i64_of (b0 x hx)) (i64_of w1) o hp) (fun g o' h => ?_) (LX.Rel2.cons (laid_of (vsl_ints w0 rfl rfl)) (LX.Rel2.cons (LX.LR.of_int _ _) LX.Rel2.nil))
  cases List.mem_singleton.1 h
  exact ho

theorem door_met (os : Os) (args : Array Value) : laidMetH Tryd.prog Rows.queueOnceRow.laid ((World.doorLaid Tryd.prog 62 os).forCall (fun _ _ => 0) ⟨#[], args, []⟩).memory :=
  laidMetH_of_parts3 (fuel := 8) (laidMet_of_run' 8 (by kernel_rfl) (by kernel_rfl)) (by kernel_rfl) (by kernel_rfl)
set_option maxRecDepth 100000 in
theorem lifted (os : Os) (started : os.Started) (H : Type) (enc : TypeId × Value → H) :
    ReturnsInHanded {} Tryd.checked os 7 .any (fun w args => (Rows.queueOnceSpec.pre enc Tryd.prog Tryd.f7 [] false w args ∧ laidMetH Tryd.prog Rows.queueOnceRow.laid w) ∧ sizedMet enc Tryd.prog Tryd.f7 (OpenSpec.ofChange Rows.queueOnceSpec) false w args)
      (Rows.queueOnceSpec.post enc Tryd.prog Tryd.f7 false true false false) := by
  refine returnsInHanded_of_change_and (C := Tryd.checked) (X := fun w _ => laidMetH Tryd.prog Rows.queueOnceRow.laid w) (fun _ _ _ hh h => h.of_heap hh) own started (by kernel_rfl) Tryd.func7
    (ChangeSpec.witness_shaped (enc := enc) (C := Tryd.checked) (os := os) (X := fun w _ => laidMetH Tryd.prog Rows.queueOnceRow.laid w) false (World.doorLaid Tryd.prog 62 os) #[.slice none 0 0, .int .i64 0] 8 rfl (World.shaped_of_RefB (by kernel_rfl) (by kernel_rfl)) (by kernel_rfl) (by kernel_rfl) (by kernel_rfl) (door_met os _)) ?_
  intro W base args ds gs before hval0 hW _ _ hL _
  have hval : ∀ (j : Nat) t v, Tryd.f7.params[j]? = some t → args[j]? = some v → Value.okWide Tryd.prog W .any base t v := hval0
  have hW' := hW
  obtain ⟨p, q, hA0, hV, rfl, hfz, hnd⟩ := hW
  have hA : DataW.TrodAll enc Tryd.prog W 0 (fun _ => true) true Tryd.f7.params.toList args.toList ds p := hA0
  rw [Tryd.params7] at hA hval
  obtain ⟨v0, vs0, d0, ds0, p0, q0, hargs, rfl, rfl, h0, r0⟩ := trodAll_cons hA
  obtain ⟨v1, vs1, d1, ds1, p1, q1, rfl, rfl, rfl, h1, r1⟩ := trodAll_cons r0
  obtain ⟨rfl, rfl, rfl⟩ := trodAll_nil r1
  obtain rfl : args = #[v0, v1] := by cases args; simp_all
  obtain ⟨rfl, rfl⟩ := trodVars_none hV
  obtain ⟨a0, w0, b0⟩ := open_ints_sl Tryd.underlying26 Tryd.underlying3 (by kernel_rfl) (hval 0 26 v0 rfl rfl) h0
  obtain ⟨a1, rfl, rfl, rfl, w1⟩ := open_int Tryd.underlying3 (hval 1 3 v1 rfl rfl) h1
  clear hA0 hval0
  simp only [List.append_nil] at hW'
  refine (walk W hL v0 a0 w0 b0 a1 w1).mono fun e W' ⟨he, hg⟩ => ?_
  subst he
  have hlaid : laidOutB Tryd.prog = true := by kernel_rfl
  have hlt := hW'.lt
  exact ⟨_, rfl, law_post (pa := p0 ++ ([] ++ ([]))) (pv := []) hW' (fun _ _ _ => (trodAll_cons_mk (shut_bool Tryd.underlying4 _) trodAll_mk0)) (fun sp hsp => (trodAll_cons_mk (WideElems.Trod_stays hlaid (by kernel_rfl) (of_decide_eq_true (by kernel_rfl)) h0 (fun x hx => hg.same (hlt x (by simp [hx]))) (fun x hx => hsp x (by simp [hx]))) (trodAll_cons_mk (shut_int Tryd.underlying3 w1) trodAll_mk0))) (fun _ _ => rfl) (by simp)
    hg (ok_one (by kernel_rfl) rfl (okWide_bool_mk Tryd.underlying4 _))⟩

theorem over : Rows.QueueOnceSaid :=
  OpenClaim.holds_of_wide 7 Tryd.f7 rfl rfl rfl rfl rfl rfl rfl ⟨rfl, rfl, rfl, rfl, rfl⟩ rfl rfl rfl rfl rfl (by kernel_rfl) Tryd.func7 (by kernel_rfl)
    (of_decide_eq_true (by kernel_rfl)) (by unfold Func.isWrapper; first | (rw [if_pos (by decide +kernel)]; kernel_rfl) | (rw [if_neg (by decide +kernel)]; exact ⟨rfl, rfl⟩))
    (fun os started H enc _ => lifted os started H enc)
theorem proved : Rows.QueueOnceCardSaid :=
  Claim7.holds_tied_plain_at .later [] [.data, .data, .data, .sentinel, .sentinel] true (true, "e91a138aee7d0b29a5d16304eacd815979034fca947fdae372e9201efc2e1d01") true
    over (fun _ h => by cases h) (by kernel_rfl) (fun _ h => by cases h) queueOnce_row_tie rfl ⟨rfl, rfl⟩ (by kernel_rfl) rfl
    (fun f fn hf hfn => by
      obtain rfl : f = 7 := Option.some.inj ((show Tryd.prog.funcNamed "dormouse/dormouselaw20.QueueOnce" = some 7 by kernel_rfl).symm.trans hf) |>.symm
      obtain rfl : fn = Tryd.f7 := (Option.some.inj (Tryd.func7.symm.trans hfn)).symm
      exact ⟨by kernel_rfl, fun j t ht => by
        rw [Tryd.params7] at ht
        have hm : t ∈ [26, 3] := by simpa using Array.mem_of_getElem? ht
        have hall : ([26, 3].all fun u => !Tryd.prog.wantsStandIn u) = true := by kernel_rfl
        exact (show Tryd.prog.wantsStandIn t = false by simpa using List.all_eq_true.1 hall t hm)⟩)
    (by kernel_rfl)
#print axioms proved
end Go.Proofs.YtocliihimbggjaaDoor.queueOnce
