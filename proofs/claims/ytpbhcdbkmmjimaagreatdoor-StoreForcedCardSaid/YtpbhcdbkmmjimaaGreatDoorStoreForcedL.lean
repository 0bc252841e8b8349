/-
  Law 21, StoreForced: a box whose finaliser comes due while room is made by force is kept, told, and not freed by that.
-/
import Derived.Test.YtpbhcdbkmmjimaaGreatDoorRows
import Derived.Test.YtpbhcdbkmmjimaaGreatDoorCards
import Derived.Test.YtpbhcdbkmmjimaaGreatDoorTie
import Derived.Test.YtpbhcdbkmmjimaaGreatDoorBe
import Derived.Test.YtpbhcdbkmmjimaaGreatDoorV7
import Derived.WalkKit
import Derived.ProofKit
import Derived.OpenShut
import Derived.LaidMore
import Derived.MakeChecks
import Derived.Stop.Joined
import Derived.SevenTiedAt
import Derived.Handy
import Derived.Outline
namespace Go.Proofs.YtpbhcdbkmmjimaaGreatDoor.storeForced
open Go.ChangeShapes Go.WideShapes Go.ChangeAt Go.ChangeMaps Go.RowKit
set_option linter.unusedVariables false
set_option maxHeartbeats 32000000
theorem own : ownKnob Tryz.prog.godebug = none := by kernel_rfl
theorem i64_of {a : Int} (h : (Lit.int .i64 a).wf = true) : -9223372036854775808 ≤ a ∧ a ≤ 9223372036854775807 := by
 simpa [Lit.wf,IntKind.min,IntKind.max,IntKind.signed,IntKind.bits] using h
theorem of_laid {W : World} (h : laidMetH Tryz.prog Rows.storeForcedRow.laid W) : ∃ o : Unit → Obj,W.heap[0]? = some (o ()) ∧ IsPow o := by
 rw [MakeChecks.laidMetH_plain _ _ _ (by kernel_rfl)] at h
 obtain ⟨ps,⟨_,_,_,_,_,_,_,_,_,_,⟨_,_,_,_,_,_,_,_,_,_,⟨g,t,cs,fuel,p,q,hg,ht,hvar,hd,_,_⟩,_⟩,_⟩,_⟩ := h
 have hg2 : Tryz.prog.globalNamed "internal/strconv.uint64pow10" = some 0 := by kernel_rfl
 have hg : Tryz.prog.globalNamed "internal/strconv.uint64pow10" = some g := hg
 obtain rfl := Option.some.inj (hg2.symm.trans hg)
 have ht : (Tryz.prog.globals[0]?).map (·.type) = some t := ht
 have ht2 : (Tryz.prog.globals[0]?).map (·.type) = some 204 := by kernel_rfl
 obtain rfl := Option.some.inj (ht2.symm.trans ht)
 have e : (Rows.laid_internal_strconv_uint64pow10 : DataW Unit) = Lib.tabData .u64 Lib.pow10Tab := by kernel_rfl
 rw [e] at hd
 have hcs := Lib.cells_of_tab (n := 20) Tryz.underlying204 Tryz.underlying187 (by kernel_rfl) (by kernel_rfl) hd
 have hvar : W.var? Tryz.prog "internal/strconv.uint64pow10" = some cs := hvar
 unfold World.var? at hvar
 rw [hg2] at hvar
 simp only [Option.bind_some] at hvar
 split at hvar
 ·rename_i cs' ty fr hh
  cases hvar
  refine ⟨fun _ => .cells cs ty fr,hh,ty,fr,?_⟩
  show Obj.cells cs ty fr = _
  rw [← hcs,Array.toArray_toList]
 ·cases hvar
theorem laid_of {k : Nat} {w : World} {u : LX.PV} {v : Value} (h : LX.LR LX.Ctx.empty w (.p u) v) : LX.LR (LX.Ctx.laid k) w (.p u) v := by
 cases h with
 | p _ _ hp => exact .p _ _ (hp.anti fun r h => (LX.laid_mut _ _ h).elim)
theorem walk (w : World) (hL : laidMetH Tryz.prog Rows.storeForcedRow.laid w) (a0 : Int) (w0 : (Lit.int .i64 a0).wf = true) :
  Calls Tryz.prog 8 #[.int .i64 a0] w fun e w' => e = .returned (.bool true) ∧ Below w.heap.size w w' := by
 obtain ⟨o,ho,hp⟩ := of_laid hL
 refine LX.law_laid [(0,o)] (storeForced_law o hp a0) (fun g o' h => ?_) (LX.Rel2.cons (LX.LR.of_int _ _) LX.Rel2.nil)
 cases List.mem_singleton.1 h
 exact ho
theorem door_met (os : Os) (args : Array Value) : laidMetH Tryz.prog Rows.storeForcedRow.laid ((World.doorLaid Tryz.prog 62 os).forCall (fun _ _ => 0) ⟨#[],args,[]⟩).memory :=
 laidMetH_of_parts3 (fuel := 8) (laidMet_of_run' 8 (by kernel_rfl) (by kernel_rfl)) (by kernel_rfl) (by kernel_rfl)
set_option maxRecDepth 100000 in
theorem lifted (os : Os) (started : os.Started) (H : Type) (enc : TypeId × Value → H) :
  ReturnsInHanded {} Tryz.checked os 8 .any (fun w args => (Rows.storeForcedSpec.pre enc Tryz.prog Tryz.f8 [] false w args ∧ laidMetH Tryz.prog Rows.storeForcedRow.laid w) ∧ sizedMet enc Tryz.prog Tryz.f8 (OpenSpec.ofChange Rows.storeForcedSpec) false w args)
   (Rows.storeForcedSpec.post enc Tryz.prog Tryz.f8 false true false false) := by
 refine returnsInHanded_of_change_and (C := Tryz.checked) (X := fun w _ => laidMetH Tryz.prog Rows.storeForcedRow.laid w) (fun _ _ _ hh h => h.of_heap hh) own started (by kernel_rfl) Tryz.func8
  (ChangeSpec.witness_shaped (enc := enc) (C := Tryz.checked) (os := os) (X := fun w _ => laidMetH Tryz.prog Rows.storeForcedRow.laid w) false (World.doorLaid Tryz.prog 62 os) #[.int .i64 0] 8 rfl (World.shaped_of_RefB (by kernel_rfl) (by kernel_rfl)) (by kernel_rfl) (by kernel_rfl) (by kernel_rfl) (door_met os _)) ?_
 intro W base args ds gs before hval0 hW _ _ hL _
 have hval : ∀ (j : Nat) t v,Tryz.f8.params[j]? = some t → args[j]? = some v → Value.okWide Tryz.prog W .any base t v := hval0
 have hW' := hW
 obtain ⟨p,q,hA0,hV,rfl,hfz,hnd⟩ := hW
 have hA : DataW.TrodAll enc Tryz.prog W 0 (fun _ => true) true Tryz.f8.params.toList args.toList ds p := hA0
 rw [Tryz.params8] at hA hval
 obtain ⟨v0,vs0,d0,ds0,p0,q0,hargs,rfl,rfl,h0,r0⟩ := trodAll_cons hA
 obtain ⟨rfl,rfl,rfl⟩ := trodAll_nil r0
 obtain rfl : args = #[v0] := by cases args; simp_all
 obtain ⟨rfl,rfl⟩ := trodVars_none hV
 obtain ⟨a0,rfl,rfl,rfl,w0⟩ := open_int Tryz.underlying3 (hval 0 3 v0 rfl rfl) h0
 clear hA0 hval0
 simp only [List.append_nil] at hW'
 refine (walk W hL a0 w0).mono fun e W' ⟨he,hg⟩ => ?_
 subst he
 exact ⟨_,rfl,law_post (pa := []) (pv := []) hW' (fun _ _ _ => (trodAll_cons_mk (shut_bool Tryz.underlying4 _) trodAll_mk0)) (fun sp hsp => (trodAll_cons_mk (shut_int Tryz.underlying3 w0) trodAll_mk0)) (fun _ _ => rfl) rfl
  hg (ok_one (by kernel_rfl) rfl (okWide_bool_mk Tryz.underlying4 _))⟩
end Go.Proofs.YtpbhcdbkmmjimaaGreatDoor.storeForced
