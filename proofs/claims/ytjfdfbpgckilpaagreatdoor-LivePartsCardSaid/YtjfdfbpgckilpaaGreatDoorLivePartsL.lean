/-
  Law 22, LiveParts: an object is reached, or lost; of more roots more is reached; what is reached of what is reached is reached; of no heap nothing is reached.
-/
import Derived.Test.YtjfdfbpgckilpaaGreatDoorRows
import Derived.Test.YtjfdfbpgckilpaaGreatDoorCards
import Derived.Test.YtjfdfbpgckilpaaGreatDoorTie
import Derived.Test.YtjfdfbpgckilpaaGreatDoorBe
import Derived.Test.YtjfdfbpgckilpaaGreatDoorZn
import Derived.Test.YtjfdfbpgckilpaaGreatDoorBf
import Derived.Test.YtjfdfbpgckilpaaGreatDoorBh
import Derived.WalkKit
import Derived.ProofKit
import Derived.OpenShut
import Derived.LaidMore
import Derived.MakeChecks
import Derived.Stop.Joined
import Derived.SevenTiedAt
import Derived.Handy
import Derived.Outline
namespace Go.Proofs.YtjfdfbpgckilpaaGreatDoor.liveParts
open Go.ChangeShapes Go.WideShapes Go.ChangeAt Go.ChangeMaps Go.RowKit
set_option linter.unusedVariables false
set_option maxHeartbeats 32000000
theorem own : ownKnob Tryz.prog.godebug = none := by kernel_rfl
theorem i64_of {a : Int} (h : (Lit.int .i64 a).wf = true) : i64 a := by
 have : -9223372036854775808 ≤ a ∧ a ≤ 9223372036854775807 := by simpa [Lit.wf,IntKind.min,IntKind.max,IntKind.signed,IntKind.bits] using h
 exact this
theorem of_laid {W : World} (h : laidMetH Tryz.prog Rows.livePartsRow.laid W) : ∃ o : Unit → Obj,W.heap[0]? = some (o ()) ∧ IsPow o := by
 rw [MakeChecks.laidMetH_plain _ _ _ (by kernel_rfl)] at h
 obtain ⟨ps,⟨_,_,_,_,_,_,_,_,_,_,⟨_,_,_,_,_,_,_,_,_,_,⟨g,t,cs,fuel,p,q,hg,ht,hvar,hd,_,_⟩,_⟩,_⟩,_⟩ := h
 have hg2 : Tryz.prog.globalNamed "internal/strconv.uint64pow10" = some 0 := by kernel_rfl
 have hg : Tryz.prog.globalNamed "internal/strconv.uint64pow10" = some g := hg
 obtain rfl := Option.some.inj (hg2.symm.trans hg)
 have ht : (Tryz.prog.globals[0]?).map (·.type) = some t := ht
 have ht2 : (Tryz.prog.globals[0]?).map (·.type) = some 326 := by kernel_rfl
 obtain rfl := Option.some.inj (ht2.symm.trans ht)
 have e : (Rows.laid_internal_strconv_uint64pow10 : DataW Unit) = Lib.tabData .u64 Lib.pow10Tab := by kernel_rfl
 rw [e] at hd
 have hcs := Lib.cells_of_tab (n := 20) Tryz.underlying326 Tryz.underlying265 (by kernel_rfl) (by kernel_rfl) hd
 have hvar : W.var? Tryz.prog "internal/strconv.uint64pow10" = some cs := hvar
 unfold World.var? at hvar
 rw [hg2] at hvar
 simp only [Option.bind_some] at hvar
 split at hvar
 ·rename_i cs' ty fr hh
  cases hvar
  refine ⟨fun _ => .cells cs ty fr,hh,ty,fr,?_⟩
  show Obj.cells cs ty fr = _
  rw [← hcs,Array.toArray_toList]
 ·cases hvar
theorem laid_of {k : Nat} {w : World} {u : LX.PV} {v : Value} (h : LX.LR LX.Ctx.empty w (.p u) v) : LX.LR (LX.Ctx.laid k) w (.p u) v := by
 cases h with
 | p _ _ hp => exact .p _ _ (hp.anti fun r h => (LX.laid_mut _ _ h).elim)
theorem walk (w : World) (hL : laidMetH Tryz.prog Rows.livePartsRow.laid w) (v1 : Value) (a1 : List (Int × Int × Int × Int × Int × Int)) (w1 : Sl w w.heap.size 6 v1 a1.length (a1.flatMap fun e => [.int .i64 e.1,.int .i64 e.2.1,.int .i64 e.2.2.1,.int .i64 e.2.2.2.1,.int .i64 e.2.2.2.2.1,.int .i64 e.2.2.2.2.2])) (b1 : ∀ e ∈ a1,(Lit.int .i64 e.1).wf = true ∧ (Lit.int .i64 e.2.1).wf = true ∧ (Lit.int .i64 e.2.2.1).wf = true ∧ (Lit.int .i64 e.2.2.2.1).wf = true ∧ (Lit.int .i64 e.2.2.2.2.1).wf = true ∧ (Lit.int .i64 e.2.2.2.2.2).wf = true) (v2 : Value) (a2 : List Int) (w2 : Sl w w.heap.size 1 v2 a2.length (a2.map (Value.int .i64))) (b2 : ∀ n ∈ a2,(Lit.int .i64 n).wf = true) (v3 : Value) (a3 : List Int) (w3 : Sl w w.heap.size 1 v3 a3.length (a3.map (Value.int .i64))) (b3 : ∀ n ∈ a3,(Lit.int .i64 n).wf = true) :
  Calls Tryz.prog 7 #[v1,v2,v3] w fun e w' => e = .returned (.bool true) ∧ Below w.heap.size w w' := by
 obtain ⟨o,ho,hp⟩ := of_laid hL
 have hmax := w1.max
 have hmax2 := w2.max
 have hmax3 := w3.max
 refine LX.law_laid [(0,o)] (liveParts_law o hp a1.length a1 (sixes a1) rfl rfl (by unfold maxLen at hmax; omega) (fun o ho => ⟨i64_of (b1 o ho).1,i64_of (b1 o ho).2.1,i64_of (b1 o ho).2.2.1,i64_of (b1 o ho).2.2.2.1,i64_of (b1 o ho).2.2.2.2.1,i64_of (b1 o ho).2.2.2.2.2⟩) a2.length a2 (ipv a2) rfl rfl (by unfold maxLen at hmax2; omega) (fun x hx => i64_of (b2 x hx)) a3.length a3 (ipv a3) rfl rfl (by unfold maxLen at hmax3; omega) (fun x hx => i64_of (b3 x hx))) (fun g o' h => ?_) (LX.Rel2.cons (laid_of (vsl_gen (by decide) w1 rfl (by rw [sixes_length]; omega) (sixes_rel a1))) (LX.Rel2.cons (laid_of (vsl_ints w2 rfl rfl)) (LX.Rel2.cons (laid_of (vsl_ints w3 rfl rfl)) LX.Rel2.nil)))
 cases List.mem_singleton.1 h
 exact ho
theorem door_met (os : Os) (args : Array Value) : laidMetH Tryz.prog Rows.livePartsRow.laid ((World.doorLaid Tryz.prog 62 os).forCall (fun _ _ => 0) ⟨#[],args,[]⟩).memory :=
 laidMetH_of_parts3 (fuel := 8) (laidMet_of_run' 8 (by kernel_rfl) (by kernel_rfl)) (by kernel_rfl) (by kernel_rfl)
set_option maxRecDepth 100000 in
theorem lifted (os : Os) (started : os.Started) (H : Type) (enc : TypeId × Value → H) :
  ReturnsInHanded {} Tryz.checked os 7 .any (fun w args => (Rows.livePartsSpec.pre enc Tryz.prog Tryz.f7 [] false w args ∧ laidMetH Tryz.prog Rows.livePartsRow.laid w) ∧ sizedMet enc Tryz.prog Tryz.f7 (OpenSpec.ofChange Rows.livePartsSpec) false w args)
   (Rows.livePartsSpec.post enc Tryz.prog Tryz.f7 false true false false) := by
 refine returnsInHanded_of_change_and (C := Tryz.checked) (X := fun w _ => laidMetH Tryz.prog Rows.livePartsRow.laid w) (fun _ _ _ hh h => h.of_heap hh) own started (by kernel_rfl) Tryz.func7
  (ChangeSpec.witness_shaped (enc := enc) (C := Tryz.checked) (os := os) (X := fun w _ => laidMetH Tryz.prog Rows.livePartsRow.laid w) false (World.doorLaid Tryz.prog 62 os) #[.slice none 0 0,.slice none 0 0,.slice none 0 0] 8 rfl (World.shaped_of_RefB (by kernel_rfl) (by kernel_rfl)) (by kernel_rfl) (by kernel_rfl) (by kernel_rfl) (door_met os _)) ?_
 intro W base args ds gs before hval0 hW _ _ hL _
 have hval : ∀ (j : Nat) t v,Tryz.f7.params[j]? = some t → args[j]? = some v → Value.okWide Tryz.prog W .any base t v := hval0
 have hW' := hW
 obtain ⟨p,q,hA0,hV,rfl,hfz,hnd⟩ := hW
 have hA : DataW.TrodAll enc Tryz.prog W 0 (fun _ => true) true Tryz.f7.params.toList args.toList ds p := hA0
 rw [Tryz.params7] at hA hval
 obtain ⟨v0,vs0,d0,ds0,p0,q0,hargs,rfl,rfl,h0,r0⟩ := trodAll_cons hA
 obtain ⟨v1,vs1,d1,ds1,p1,q1,rfl,rfl,rfl,h1,r1⟩ := trodAll_cons r0
 obtain ⟨v2,vs2,d2,ds2,p2,q2,rfl,rfl,rfl,h2,r2⟩ := trodAll_cons r1
 obtain ⟨rfl,rfl,rfl⟩ := trodAll_nil r2
 obtain rfl : args = #[v0,v1,v2] := by cases args; simp_all
 obtain ⟨rfl,rfl⟩ := trodVars_none hV
 obtain ⟨a0,w0,b0⟩ := open_sixes Tryz.underlying83 (by kernel_rfl) (hval 0 83 v0 rfl rfl) h0
 obtain ⟨a1,w1,b1⟩ := open_ints_sl Tryz.underlying31 Tryz.underlying3 (by kernel_rfl) (hval 1 31 v1 rfl rfl) h1
 obtain ⟨a2,w2,b2⟩ := open_ints_sl Tryz.underlying31 Tryz.underlying3 (by kernel_rfl) (hval 2 31 v2 rfl rfl) h2
 clear hA0 hval0
 simp only [List.append_nil] at hW'
 refine (walk W hL v0 a0 w0 b0 v1 a1 w1 b1 v2 a2 w2 b2).mono fun e W' ⟨he,hg⟩ => ?_
 subst he
 have hlaid : laidOutB Tryz.prog = true := by kernel_rfl
 have hlt := hW'.lt
 exact ⟨_,rfl,law_post (pa := p0 ++ (p1 ++ (p2 ++ ([])))) (pv := []) hW' (fun _ _ _ => (trodAll_cons_mk (shut_bool Tryz.underlying4 _) trodAll_mk0)) (fun sp hsp => (trodAll_cons_mk (WideElems.Trod_stays hlaid (by kernel_rfl) (of_decide_eq_true (by kernel_rfl)) h0 (fun x hx => hg.same (hlt x (by simp [hx]))) (fun x hx => hsp x (by simp [hx]))) (trodAll_cons_mk (WideElems.Trod_stays hlaid (by kernel_rfl) (of_decide_eq_true (by kernel_rfl)) h1 (fun x hx => hg.same (hlt x (by simp [hx]))) (fun x hx => hsp x (by simp [hx]))) (trodAll_cons_mk (WideElems.Trod_stays hlaid (by kernel_rfl) (of_decide_eq_true (by kernel_rfl)) h2 (fun x hx => hg.same (hlt x (by simp [hx]))) (fun x hx => hsp x (by simp [hx]))) trodAll_mk0)))) (fun _ _ => rfl) (by simp)
  hg (ok_one (by kernel_rfl) rfl (okWide_bool_mk Tryz.underlying4 _))⟩
end Go.Proofs.YtjfdfbpgckilpaaGreatDoor.liveParts
