/-
  Law 21, StoreFull: there is no room just if none is left behind a whole cycle: what is rooted stays, all else makes room.
-/
import Derived.Deep.Slices
import Derived.Test.YtpbhcdbkmmjimaaGreatDoorRows
import Derived.Test.YtpbhcdbkmmjimaaGreatDoorCards
import Derived.Test.YtpbhcdbkmmjimaaGreatDoorTie
import Derived.Test.YtpbhcdbkmmjimaaGreatDoorBf
import Derived.Test.YtpbhcdbkmmjimaaGreatDoorV5
import Derived.Test.YtpbhcdbkmmjimaaGreatDoorVo
import Derived.WalkKit
import Derived.ProofKit
import Derived.OpenShut
import Derived.LaidMore
import Derived.MakeChecks
import Derived.Stop.Joined
import Derived.SevenTiedAt
import Derived.Handy
import Derived.Outline
namespace Go.Proofs.YtpbhcdbkmmjimaaGreatDoor.storeFull
open Go.ChangeShapes Go.WideShapes Go.ChangeAt Go.ChangeMaps Go.RowKit
set_option linter.unusedVariables false
set_option maxHeartbeats 32000000
theorem own : ownKnob Tryz.prog.godebug = none := by kernel_rfl
theorem i64_of {a : Int} (h : (Lit.int .i64 a).wf = true) : -9223372036854775808 ≤ a ∧ a ≤ 9223372036854775807 := by
 simpa [Lit.wf,IntKind.min,IntKind.max,IntKind.signed,IntKind.bits] using h
theorem of_laid {W : World} (h : laidMetH Tryz.prog Rows.storeFullRow.laid W) : ∃ o : Unit → Obj,W.heap[0]? = some (o ()) ∧ IsPow o := by
 rw [MakeChecks.laidMetH_plain _ _ _ (by kernel_rfl)] at h
 obtain ⟨ps,⟨_,_,_,_,_,_,_,_,_,_,⟨_,_,_,_,_,_,_,_,_,_,⟨g,t,cs,fuel,p,q,hg,ht,hvar,hd,_,_⟩,_⟩,_⟩,_⟩ := h
 have hg2 : Tryz.prog.globalNamed "internal/strconv.uint64pow10" = some 0 := by kernel_rfl
 have hg : Tryz.prog.globalNamed "internal/strconv.uint64pow10" = some g := hg
 obtain rfl := Option.some.inj (hg2.symm.trans hg)
 have ht : (Tryz.prog.globals[0]?).map (·.type) = some t := ht
 have ht2 : (Tryz.prog.globals[0]?).map (·.type) = some 204 := by kernel_rfl
 obtain rfl := Option.some.inj (ht2.symm.trans ht)
 have e : (Rows.laid_internal_strconv_uint64pow10 : DataW Unit) = Lib.tabData .u64 Lib.pow10Tab := by kernel_rfl
 rw [e] at hd
 have hcs := Lib.cells_of_tab (n := 20) Tryz.underlying204 Tryz.underlying187 (by kernel_rfl) (by kernel_rfl) hd
 have hvar : W.var? Tryz.prog "internal/strconv.uint64pow10" = some cs := hvar
 unfold World.var? at hvar
 rw [hg2] at hvar
 simp only [Option.bind_some] at hvar
 split at hvar
 ·rename_i cs' ty fr hh
  cases hvar
  refine ⟨fun _ => .cells cs ty fr,hh,ty,fr,?_⟩
  show Obj.cells cs ty fr = _
  rw [← hcs,Array.toArray_toList]
 ·cases hvar
theorem laid_of {k : Nat} {w : World} {u : LX.PV} {v : Value} (h : LX.LR LX.Ctx.empty w (.p u) v) : LX.LR (LX.Ctx.laid k) w (.p u) v := by
 cases h with
 | p _ _ hp => exact .p _ _ (hp.anti fun r h => (LX.laid_mut _ _ h).elim)
theorem vsl_bools {w : World} {v : Value} {zs : List Bool} (h : Sl w w.heap.size 1 v zs.length (zs.map Value.bool)) {m : Int} {l : List LX.PV} (hm : m = zs.length) (hl : l = zs.map LX.PV.bool) : LX.LR LX.Ctx.empty w (.p (.vsl (.sym m) true l)) v := by
 subst hl
 refine vsl_gen Nat.one_pos h hm (by simp) fun j u hu => ?_
 rw [List.getElem?_map] at hu
 cases hz : zs[j]? with
 | none => rw [hz] at hu; cases hu
 | some z =>
  rw [hz] at hu
  cases hu
  exact ⟨.bool z,by rw [List.getElem?_map,hz]; rfl,.bool z⟩
theorem open_bools_sl {H : Type} {enc : TypeId × Value → H} {P : Program} {W : World} {t e : TypeId} {base : Nat} {v : Value} {d : DataW H} {ps : List MemPlace} (ht : P.underlying t = some (.slice e)) (he : P.underlying e = some .bool) (hc : P.cellsOf e = 1)
  (hval : Value.okWide P W .any base t v) (h : DataW.Trod enc P W 0 (fun _ => true) true t v d ps) : ∃ zs : List Bool,Sl W W.heap.size 1 v zs.length (zs.map Value.bool) := by
 obtain ⟨a0,len,cap,rfl⟩ := okWide_slice ht hval
 obtain ⟨fuel,hf⟩ := h
 rcases Go.Deep.open_slice1 ht hc hf with ⟨hcs,_⟩ | ⟨a,len',cap',m,n,V,D,Pl,hcs,_,hl,hm,hmm,_,hx⟩
 ·simp only [Value.cells] at hcs
  cases hcs
  exact ⟨[],Sl.nil⟩
 ·simp only [Value.cells] at hcs
  cases hcs
  simp only [if_true] at hmm
  obtain ⟨B,hB⟩ := Go.Deep.choose_lt (α := Bool) (p := fun i b => V i = .bool b) (fun i (hi : i < m) => by
   obtain ⟨b,h1,_⟩ := DataW.trod_bool he (hx i hi).2
   exact ⟨b,by simpa using h1⟩)
  have hcell : ∀ i,i < len → W.cell? (a.add i) = some (.bool (B i)) := fun i hi => by rw [(hx i (by omega)).1,hB i (by omega)]
  have h0 : 0 < len → a.block < W.heap.size := fun hp => lt_of_cell (a := a.add 0) (hcell 0 hp)
  refine ⟨(List.range len).map B,?_⟩
  have hlen : ((List.range len).map B).length = len := by simp
  rw [hlen]
  refine ⟨by simp,Nat.le_trans hl hm,.inr ⟨a,cap,rfl,hl,hm,h0,fun j u hu => ?_⟩⟩
  rw [List.getElem?_map] at hu
  obtain ⟨z,hz2,rfl⟩ := Option.map_eq_some_iff.1 hu
  rw [List.getElem?_map] at hz2
  obtain ⟨q,hq,rfl⟩ := Option.map_eq_some_iff.1 hz2
  have hj : j < len := by have := (List.getElem?_eq_some_iff.1 hq).1; simpa using this
  rw [List.getElem?_range hj] at hq
  cases hq
  exact hcell j (by omega)
theorem walk (w : World) (hL : laidMetH Tryz.prog Rows.storeFullRow.laid w) (a0 : List Int) (l0 : a0.length = 3) (w0 : ∀ n ∈ a0,(Lit.int .i64 n).wf = true) (a1 : Int) (w1 : (Lit.int .i64 a1).wf = true) (v2 : Value) (a2 : List Bool) (w2 : Sl w w.heap.size 1 v2 a2.length (a2.map Value.bool)) :
  Calls Tryz.prog 4 #[.agg (a0.map (fun n => Value.int .i64 n)).toArray,.int .i64 a1,v2] w fun e w' => e = .returned (.bool true) ∧ Below w.heap.size w w' := by
 obtain ⟨o,ho,hp⟩ := of_laid hL
 obtain ⟨c0_0,c0_1,c0_2,rfl⟩ : ∃ c0_0 c0_1 c0_2,a0 = [c0_0,c0_1,c0_2] := by match a0,l0 with | [c0_0,c0_1,c0_2],_ => exact ⟨c0_0,c0_1,c0_2,rfl⟩
 have hmax2 := w2.max
 refine LX.law_laid [(0,o)] (storeFull_law o hp c0_0 c0_1 c0_2 a1 a2.length a2 (a2.map LX.PV.bool) rfl rfl (by unfold maxLen at hmax2; omega)) (fun g o' h => ?_) (LX.Rel2.cons (LR.nums [c0_0,c0_1,c0_2]) (LX.Rel2.cons (LX.LR.of_int _ _) (LX.Rel2.cons (laid_of (vsl_bools w2 rfl rfl)) LX.Rel2.nil)))
 cases List.mem_singleton.1 h
 exact ho
theorem door_met (os : Os) (args : Array Value) : laidMetH Tryz.prog Rows.storeFullRow.laid ((World.doorLaid Tryz.prog 62 os).forCall (fun _ _ => 0) ⟨#[],args,[]⟩).memory :=
 laidMetH_of_parts3 (fuel := 8) (laidMet_of_run' 8 (by kernel_rfl) (by kernel_rfl)) (by kernel_rfl) (by kernel_rfl)
set_option maxRecDepth 100000 in
theorem lifted (os : Os) (started : os.Started) (H : Type) (enc : TypeId × Value → H) :
  ReturnsInHanded {} Tryz.checked os 4 .any (fun w args => (Rows.storeFullSpec.pre enc Tryz.prog Tryz.f4 [] false w args ∧ laidMetH Tryz.prog Rows.storeFullRow.laid w) ∧ sizedMet enc Tryz.prog Tryz.f4 (OpenSpec.ofChange Rows.storeFullSpec) false w args)
   (Rows.storeFullSpec.post enc Tryz.prog Tryz.f4 false true false false) := by
 refine returnsInHanded_of_change_and (C := Tryz.checked) (X := fun w _ => laidMetH Tryz.prog Rows.storeFullRow.laid w) (fun _ _ _ hh h => h.of_heap hh) own started (by kernel_rfl) Tryz.func4
  (ChangeSpec.witness_shaped (enc := enc) (C := Tryz.checked) (os := os) (X := fun w _ => laidMetH Tryz.prog Rows.storeFullRow.laid w) false (World.doorLaid Tryz.prog 62 os) #[.agg #[.int .i64 0,.int .i64 0,.int .i64 0],.int .i64 0,.slice none 0 0] 8 rfl (World.shaped_of_RefB (by kernel_rfl) (by kernel_rfl)) (by kernel_rfl) (by kernel_rfl) (by kernel_rfl) (door_met os _)) ?_
 intro W base args ds gs before hval0 hW _ _ hL _
 have hval : ∀ (j : Nat) t v,Tryz.f4.params[j]? = some t → args[j]? = some v → Value.okWide Tryz.prog W .any base t v := hval0
 have hW' := hW
 obtain ⟨p,q,hA0,hV,rfl,hfz,hnd⟩ := hW
 have hA : DataW.TrodAll enc Tryz.prog W 0 (fun _ => true) true Tryz.f4.params.toList args.toList ds p := hA0
 rw [Tryz.params4] at hA hval
 obtain ⟨v0,vs0,d0,ds0,p0,q0,hargs,rfl,rfl,h0,r0⟩ := trodAll_cons hA
 obtain ⟨v1,vs1,d1,ds1,p1,q1,rfl,rfl,rfl,h1,r1⟩ := trodAll_cons r0
 obtain ⟨v2,vs2,d2,ds2,p2,q2,rfl,rfl,rfl,h2,r2⟩ := trodAll_cons r1
 obtain ⟨rfl,rfl,rfl⟩ := trodAll_nil r2
 obtain rfl : args = #[v0,v1,v2] := by cases args; simp_all
 obtain ⟨rfl,rfl⟩ := trodVars_none hV
 obtain ⟨a0,l0,rfl,w0⟩ := open_nums (m := 3) (by kernel_rfl) (hval 0 23 v0 rfl rfl) h0
 obtain ⟨a1,rfl,rfl,rfl,w1⟩ := open_int Tryz.underlying3 (hval 1 3 v1 rfl rfl) h1
 obtain ⟨a2,w2⟩ := open_bools_sl Tryz.underlying59 Tryz.underlying4 (by kernel_rfl) (hval 2 59 v2 rfl rfl) h2
 clear hA0 hval0
 simp only [List.append_nil] at hW'
 refine (walk W hL a0 l0 w0 a1 w1 v2 a2 w2).mono fun e W' ⟨he,hg⟩ => ?_
 subst he
 have hlaid : laidOutB Tryz.prog = true := by kernel_rfl
 have hlt := hW'.lt
 exact ⟨_,rfl,law_post (pa := p0 ++ ([] ++ (p2 ++ ([])))) (pv := []) hW' (fun _ _ _ => (trodAll_cons_mk (shut_bool Tryz.underlying4 _) trodAll_mk0)) (fun sp hsp => (trodAll_cons_mk (WideElems.Trod_stays hlaid (by kernel_rfl) (of_decide_eq_true (by kernel_rfl)) h0 (fun x hx => hg.same (hlt x (by simp [hx]))) (fun x hx => hsp x (by simp [hx]))) (trodAll_cons_mk (shut_int Tryz.underlying3 w1) (trodAll_cons_mk (WideElems.Trod_stays hlaid (by kernel_rfl) (of_decide_eq_true (by kernel_rfl)) h2 (fun x hx => hg.same (hlt x (by simp [hx]))) (fun x hx => hsp x (by simp [hx]))) trodAll_mk0)))) (fun _ _ => rfl) (by simp)
  hg (ok_one (by kernel_rfl) rfl (okWide_bool_mk Tryz.underlying4 _))⟩
end Go.Proofs.YtpbhcdbkmmjimaaGreatDoor.storeFull
