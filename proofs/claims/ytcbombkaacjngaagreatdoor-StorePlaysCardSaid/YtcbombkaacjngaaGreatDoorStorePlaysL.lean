/-
  Law 21, StorePlays: whatever is allotted, collected, and stored, with whatever roots, by whatever pace: each answer, all that is told, all objects, words, colours and phases.
-/
import Derived.Test.YtcbombkaacjngaaGreatDoorRows
import Derived.Test.YtcbombkaacjngaaGreatDoorCards
import Derived.Test.YtcbombkaacjngaaGreatDoorTie
import Derived.Test.YtcbombkaacjngaaGreatDoorBa
import Derived.Test.YtcbombkaacjngaaGreatDoorV16
import Derived.Test.YtcbombkaacjngaaGreatDoorBh
import Derived.Test.YtcbombkaacjngaaGreatDoorBc
import Derived.WalkKit
import Derived.ProofKit
import Derived.OpenShut
import Derived.LaidMore
import Derived.MakeChecks
import Derived.Stop.Joined
import Derived.SevenTiedAt
import Derived.Handy
import Derived.Outline
namespace Go.Proofs.YtcbombkaacjngaaGreatDoor.storePlays
open Go.ChangeShapes Go.WideShapes Go.ChangeAt Go.ChangeMaps Go.RowKit
set_option linter.unusedVariables false
set_option maxHeartbeats 32000000
theorem own : ownKnob Tryz.prog.godebug = none := by kernel_rfl
theorem of_laid {W : World} (h : laidMetH Tryz.prog Rows.storePlaysRow.laid W) : ∃ o : Unit → Obj,W.heap[0]? = some (o ()) ∧ IsPow o := by
 rw [MakeChecks.laidMetH_plain _ _ _ (by kernel_rfl)] at h
 obtain ⟨ps,⟨_,_,_,_,_,_,_,_,_,_,⟨_,_,_,_,_,_,_,_,_,_,⟨g,t,cs,fuel,p,q,hg,ht,hvar,hd,_,_⟩,_⟩,_⟩,_⟩ := h
 have hg2 : Tryz.prog.globalNamed "internal/strconv.uint64pow10" = some 0 := by kernel_rfl
 have hg : Tryz.prog.globalNamed "internal/strconv.uint64pow10" = some g := hg
 obtain rfl := Option.some.inj (hg2.symm.trans hg)
 have ht : (Tryz.prog.globals[0]?).map (·.type) = some t := ht
 have ht2 : (Tryz.prog.globals[0]?).map (·.type) = some 332 := by kernel_rfl
 obtain rfl := Option.some.inj (ht2.symm.trans ht)
 have e : (Rows.laid_internal_strconv_uint64pow10 : DataW Unit) = Lib.tabData .u64 Lib.pow10Tab := by kernel_rfl
 rw [e] at hd
 have hcs := Lib.cells_of_tab (n := 20) Tryz.underlying332 Tryz.underlying315 (by kernel_rfl) (by kernel_rfl) hd
 have hvar : W.var? Tryz.prog "internal/strconv.uint64pow10" = some cs := hvar
 unfold World.var? at hvar
 rw [hg2] at hvar
 simp only [Option.bind_some] at hvar
 split at hvar
 ·rename_i cs' ty fr hh
  cases hvar
  refine ⟨fun _ => .cells cs ty fr,hh,ty,fr,?_⟩
  show Obj.cells cs ty fr = _
  rw [← hcs,Array.toArray_toList]
 ·cases hvar
theorem laid_of {k : Nat} {w : World} {u : LX.PV} {v : Value} (h : LX.LR LX.Ctx.empty w (.p u) v) : LX.LR (LX.Ctx.laid k) w (.p u) v := by
 cases h with
 | p _ _ hp => exact .p _ _ (hp.anti fun r h => (LX.laid_mut _ _ h).elim)
theorem walk (w : World) (hL : laidMetH Tryz.prog Rows.storePlaysRow.laid w) (a0 : List Int) (l0 : a0.length = 3) (w0 : ∀ n ∈ a0,(Lit.int .i64 n).wf = true) (a1 : Bool) (v2 : Value) (a2 : List OpD) (x2 : List Value) (w2 : Sl w w.heap.size 5 v2 a2.length x2) (b2 : OpAt w a2 x2) :
  Calls Tryz.prog 3 #[.agg (a0.map (fun n => Value.int .i64 n)).toArray,.bool a1,v2] w fun e w' => e = .returned (.bool true) ∧ Below w.heap.size w w' := by
 obtain ⟨o,ho,hp⟩ := of_laid hL
 obtain ⟨c0_0,c0_1,c0_2,rfl⟩ : ∃ c0_0 c0_1 c0_2,a0 = [c0_0,c0_1,c0_2] := by match a0,l0 with | [c0_0,c0_1,c0_2],_ => exact ⟨c0_0,c0_1,c0_2,rfl⟩
 refine LX.law_laid [(0,o)] (storePlays_law o hp c0_0 c0_1 c0_2 a2.length a1 a2 (opV a2) rfl rfl (by have := w2.max; unfold maxLen at this; omega) b2.ok) (fun g o' h => ?_) (LX.Rel2.cons (LR.nums [c0_0,c0_1,c0_2]) (LX.Rel2.cons (LX.LR.of_bool _) (LX.Rel2.cons (laid_of (vsl_ops w2 b2 rfl rfl)) LX.Rel2.nil)))
 cases List.mem_singleton.1 h
 exact ho
theorem door_met (os : Os) (args : Array Value) : laidMetH Tryz.prog Rows.storePlaysRow.laid ((World.doorLaid Tryz.prog 62 os).forCall (fun _ _ => 0) ⟨#[],args,[]⟩).memory :=
 laidMetH_of_parts3 (fuel := 8) (laidMet_of_run' 8 (by kernel_rfl) (by kernel_rfl)) (by kernel_rfl) (by kernel_rfl)
set_option maxRecDepth 100000 in
theorem lifted (os : Os) (started : os.Started) (H : Type) (enc : TypeId × Value → H) :
  ReturnsInHanded {} Tryz.checked os 3 .any (fun w args => (Rows.storePlaysSpec.pre enc Tryz.prog Tryz.f3 [] false w args ∧ laidMetH Tryz.prog Rows.storePlaysRow.laid w) ∧ sizedMet enc Tryz.prog Tryz.f3 (OpenSpec.ofChange Rows.storePlaysSpec) false w args)
   (Rows.storePlaysSpec.post enc Tryz.prog Tryz.f3 false true false false) := by
 refine returnsInHanded_of_change_and (C := Tryz.checked) (X := fun w _ => laidMetH Tryz.prog Rows.storePlaysRow.laid w) (fun _ _ _ hh h => h.of_heap hh) own started (by kernel_rfl) Tryz.func3
  (ChangeSpec.witness_shaped (enc := enc) (C := Tryz.checked) (os := os) (X := fun w _ => laidMetH Tryz.prog Rows.storePlaysRow.laid w) false (World.doorLaid Tryz.prog 62 os) #[.agg #[.int .i64 0,.int .i64 0,.int .i64 0],.bool false,.slice none 0 0] 8 rfl (World.shaped_of_RefB (by kernel_rfl) (by kernel_rfl)) (by kernel_rfl) (by kernel_rfl) (by kernel_rfl) (door_met os _)) ?_
 intro W base args ds gs before hval0 hW _ _ hL _
 have hval : ∀ (j : Nat) t v,Tryz.f3.params[j]? = some t → args[j]? = some v → Value.okWide Tryz.prog W .any base t v := hval0
 have hW' := hW
 obtain ⟨p,q,hA0,hV,rfl,hfz,hnd⟩ := hW
 have hA : DataW.TrodAll enc Tryz.prog W 0 (fun _ => true) true Tryz.f3.params.toList args.toList ds p := hA0
 rw [Tryz.params3] at hA hval
 obtain ⟨v0,vs0,d0,ds0,p0,q0,hargs,rfl,rfl,h0,r0⟩ := trodAll_cons hA
 obtain ⟨v1,vs1,d1,ds1,p1,q1,rfl,rfl,rfl,h1,r1⟩ := trodAll_cons r0
 obtain ⟨v2,vs2,d2,ds2,p2,q2,rfl,rfl,rfl,h2,r2⟩ := trodAll_cons r1
 obtain ⟨rfl,rfl,rfl⟩ := trodAll_nil r2
 obtain rfl : args = #[v0,v1,v2] := by cases args; simp_all
 obtain ⟨rfl,rfl⟩ := trodVars_none hV
 obtain ⟨a0,l0,rfl,w0⟩ := open_nums (m := 3) (by kernel_rfl) (hval 0 23 v0 rfl rfl) h0
 obtain ⟨a1,rfl,rfl,rfl⟩ := open_bool Tryz.underlying4 (hval 1 4 v1 rfl rfl) h1
 obtain ⟨a2,x2,w2,b2⟩ := open_ops Tryz.underlying24 (by kernel_rfl) (hval 2 24 v2 rfl rfl) h2
 clear hA0 hval0
 simp only [List.append_nil] at hW'
 refine (walk W hL a0 l0 w0 a1 v2 a2 x2 w2 b2).mono fun e W' ⟨he,hg⟩ => ?_
 subst he
 have hlaid : laidOutB Tryz.prog = true := by kernel_rfl
 have hlt := hW'.lt
 exact ⟨_,rfl,law_post (pa := p0 ++ ([] ++ (p2 ++ ([])))) (pv := []) hW' (fun _ _ _ => (trodAll_cons_mk (shut_bool Tryz.underlying4 _) trodAll_mk0)) (fun sp hsp => (trodAll_cons_mk (WideElems.Trod_stays hlaid (by kernel_rfl) (of_decide_eq_true (by kernel_rfl)) h0 (fun x hx => hg.same (hlt x (by simp [hx]))) (fun x hx => hsp x (by simp [hx]))) (trodAll_cons_mk (shut_bool Tryz.underlying4 _) (trodAll_cons_mk (WideElems.Trod_stays hlaid (by kernel_rfl) (of_decide_eq_true (by kernel_rfl)) h2 (fun x hx => hg.same (hlt x (by simp [hx]))) (fun x hx => hsp x (by simp [hx]))) trodAll_mk0)))) (fun _ _ => rfl) (by simp)
  hg (ok_one (by kernel_rfl) rfl (okWide_bool_mk Tryz.underlying4 _))⟩
end Go.Proofs.YtcbombkaacjngaaGreatDoor.storePlays
