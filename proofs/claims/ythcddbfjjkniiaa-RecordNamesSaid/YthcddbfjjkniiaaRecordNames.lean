/-
  Whatever two integers are given, the law RecordNames of layer 10 returns true. No condition.
-/
import Derived.Test.YthcddbfjjkniiaaRows
import Derived.Test.YthcddbfjjkniiaaLem
import Derived.Test.YthcddbfjjkniiaaRecordR
import Derived.Test.YthcddbfjjkniiaaInStr
import Derived.BigQuiet
import Derived.Deep.QuietTactic
import Derived.WalkKit
import Derived.ProofKit
import Derived.OpenShut
import Derived.Handy
import Derived.Outline
namespace Go.Proofs.Ythcddbfjjkniiaa.recordNames
open Go.ChangeShapes Go.WideShapes Go.ChangeAt Go.RowKit
set_option linter.unusedVariables false

theorem own : ownKnob Try.prog.godebug = none := by kernel_rfl

def Good (l : List ByteArray) : Bool := (List.range l.length).all fun i => match l[i]? with
  | some x => !x.toList.isEmpty && !memS x (l.take i)
  | none => true
theorem good_at {l : List ByteArray} (h : Good l = true) {i : Nat} {x : ByteArray} (hx : l[i]? = some x) : x.toList.isEmpty = false ∧ memS x (l.take i) = false := by
  have hi : i < l.length := (List.getElem?_eq_some_iff.1 hx).1
  unfold Good at h
  rw [List.all_eq_true] at h
  have := h i (List.mem_range.2 hi)
  rw [hx] at this
  simpa using this
theorem good_ref : Good (refL 1) = true ∧ Good (refL 3) = true ∧ Good (refL 4) = true ∧ Good (refL 5) = true ∧ Good (refL 6) = true := by
  refine ⟨?_, ?_, ?_, ?_, ?_⟩ <;> decide +kernel

theorem known (a0 a1 k n : Int) (N : Nat) (w : World) (hm : k = wrap64 (1 + wrap64 ((IntKind.u64.wrap a0).tmod 6))) (hk : 1 ≤ k ∧ k ≤ 6 ∧ k ≠ 2) (hgood : Good (fldL k) = true) (hn : needV k a1 = (N : Int)) (hh : hasV k a1 = true) (hlen : (fldL k).length = N) (hN : N ≤ 10) :
    Calls Try.prog 10 #[.int .i64 a0, .int .i64 a1] w fun e w' => e = .returned (.bool true) ∧ Below w.heap.size w w' := by
  obtain ⟨k1, k2, k3⟩ := hk
  have e2 : (k == 2) = false := by rw [beq_eq_false_iff_ne]; exact k3
  have HM := Lib.hid hm
  have HG := Lib.hid hgood
  have HLEN := Lib.hid hlen
  clear hm hgood k3 hlen
  go_enter Try.func10, Try.ntmps10
  go_wp2_with fail
  rw [← HM.out]
  clear HM
  refine (fields_any k w).mono ?_
  rintro e_ w2 ⟨v, rfl, hs, hb2⟩
  obtain ⟨A, c, rfl⟩ := hs.is_slice
  have HS := Lib.hid hs
  clear hs
  rw [HLEN.out]
  go_wp2_with (first | (go_at_call 30; refine (need_any _ _ _).mono ?_; rintro e_ w3 ⟨rfl, hb3⟩) | (go_at_call 32; refine (awake10_any _).mono ?_; rintro e_ w4 ⟨rfl, hb4⟩))
  have HS3 := Lib.hid (HS.out.below hb3)
  clear HS
  go_loopw [9] (fun i wr => ∃ k nq : Nat, i = .int .i64 k ∧ k ≤ N ∧ wr = w3.drewN nq) (fun i _ => N - (intOf i).toNat)
  case atStart => exact ⟨0, 0, rfl, by omega, rfl⟩
  case round =>
    obtain ⟨i, nq, rfl, hi, rfl⟩ := hrel
    by_cases hlt : i < N
    · obtain ⟨x, hx⟩ : ∃ x, (fldL k)[i]? = some x := ⟨_, List.getElem?_eq_getElem (by rw [HLEN.out]; exact hlt)⟩
      have hS := HS3.out
      rw [HLEN.out] at hS
      obtain ⟨a, c', hA⟩ := hS.some_ (by omega)
      obtain ⟨rfl, rfl⟩ : A = some a ∧ c = c' := by cases hA; exact ⟨rfl, rfl⟩
      clear hA
      obtain ⟨hc1, hc2, _⟩ := hS.cap
      unfold maxLen at hc2
      have c1 : w3.cell? (a.add i) = some (.string x) := hS.cell (by simp [hx])
      obtain ⟨hx1, hx2⟩ := good_at HG.out hx
      have hin := fun nq => in_str (.slice (some a) i c) ((fldL k).take i) x (w3.drewN nq) (B := w2.heap.size) (by
        have e : ((fldL k).take i).length = i := by rw [List.length_take, HLEN.out]; omega
        rw [e, List.map_take]
        exact (hS.drewN nq).take (by omega))
      rw [hx2] at hin
      have HIN := Lib.hid hin
      clear hin hS hx hx2
      go_wp2_with fail
      go_quiet ((go_at_call 36; exact quiet_sum (HIN.out _)))
      go_wp2_with fail
      go_roundw
      case rel => exact ⟨i + 1, _, by go_num, by omega, by first | exact World.drewN_drewN _ _ _ | rfl⟩
      case measure => simp [intOf]; omega
    · obtain rfl : i = N := by omega
      go_wp2_with (first | (go_at_call 30; refine (need_any _ _ _).mono ?_; rintro e_ w3 ⟨rfl, hb3⟩) | (go_at_call 32; refine (awake10_any _).mono ?_; rintro e_ w4 ⟨rfl, hb4⟩))
      go_ret
      exact ⟨by first | (simp; done) | (simp; omega), by (repeat' (first | (with_reducible exact Below.refl _ _) | (with_reducible assumption) | (with_reducible refine below_iter ?_ ?_ _ _) | (with_reducible refine Below.alloc ?_ ?_ _) | (with_reducible refine Below.drew ?_) | (with_reducible refine below_drewN ?_ _) | (with_reducible refine Below.setCell ?_ ?_ _) | (with_reducible refine below_step ?_ ?_ (by with_reducible assumption)) | (first | (with_reducible exact Nat.le_refl _) | (with_reducible assumption) | (with_reducible refine Nat.le_trans ?_ (Below.size (by with_reducible assumption))) | (simp only [World.size_alloc, World.size_setCell, World.size_drew, size_iter, size_drewN]) | omega)))⟩

theorem buf (a0 a1 : Int) (w : World) (hm : 2 = wrap64 (1 + wrap64 ((IntKind.u64.wrap a0).tmod 6))) (hn : needV 2 a1 = (if a1 < 0 ∨ 3 < a1 then 0 else a1)) (hh : hasV 2 a1 = (if a1 < 0 ∨ 3 < a1 then false else true)) (hl : (fldL 2).length = 0) :
    Calls Try.prog 10 #[.int .i64 a0, .int .i64 a1] w fun e w' => e = .returned (.bool true) ∧ Below w.heap.size w w' := by
  have HM := Lib.hid hm
  clear hm
  have key : (a1 < 0 ∧ needV 2 a1 = 0 ∧ hasV 2 a1 = false) ∨ (3 < a1 ∧ needV 2 a1 = 0 ∧ hasV 2 a1 = false) ∨ ((0 ≤ a1 ∧ a1 ≤ 3) ∧ needV 2 a1 = a1 ∧ hasV 2 a1 = true) := by
    by_cases h1 : a1 < 0
    · left; rw [hn, hh, if_pos (.inl h1), if_pos (.inl h1)]; exact ⟨h1, rfl, rfl⟩
    by_cases h2 : 3 < a1
    · right; left; rw [hn, hh, if_pos (.inr h2), if_pos (.inr h2)]; exact ⟨h2, rfl, rfl⟩
    · right; right; rw [hn, hh, if_neg (by omega), if_neg (by omega)]; exact ⟨⟨by omega, by omega⟩, rfl, rfl⟩
  clear hn hh
  rcases key with ⟨h1, hn, hh⟩ | ⟨h1, hn, hh⟩ | ⟨⟨h1, h2⟩, hn, hh⟩
  all_goals
    go_enter Try.func10, Try.ntmps10
    go_wp2_with fail
    rw [← HM.out]
    clear HM
    refine (fields_any 2 w).mono ?_
    rintro e_ w2 ⟨v, rfl, hs, hb2⟩
    obtain ⟨A, c, rfl⟩ := hs.is_slice
    clear hs
    rw [hl]
    go_wp2_with (first | (go_at_call 30; refine (need_any _ _ _).mono ?_; rintro e_ w3 ⟨rfl, hb3⟩) | (go_at_call 32; refine (awake10_any _).mono ?_; rintro e_ w4 ⟨rfl, hb4⟩))
    go_ret
    exact ⟨by first | (simp; done) | (simp; omega), by (repeat' (first | (with_reducible exact Below.refl _ _) | (with_reducible assumption) | (with_reducible refine below_iter ?_ ?_ _ _) | (with_reducible refine Below.alloc ?_ ?_ _) | (with_reducible refine Below.drew ?_) | (with_reducible refine below_drewN ?_ _) | (with_reducible refine Below.setCell ?_ ?_ _) | (with_reducible refine below_step ?_ ?_ (by with_reducible assumption)) | (first | (with_reducible exact Nat.le_refl _) | (with_reducible assumption) | (with_reducible refine Nat.le_trans ?_ (Below.size (by with_reducible assumption))) | (simp only [World.size_alloc, World.size_setCell, World.size_drew, size_iter, size_drewN]) | omega)))⟩

theorem walk (a0 : Int) (w0 : (Lit.int .i64 a0).wf = true) (a1 : Int) (w1 : (Lit.int .i64 a1).wf = true) (w : World) :
    Calls Try.prog 10 #[.int .i64 a0, .int .i64 a1] w fun e w' => e = .returned (.bool true) ∧ Below w.heap.size w w' := by
  obtain ⟨bm0, bm1⟩ := umod_bd a0 6 (by omega) (by omega)
  obtain ⟨k, hk⟩ : ∃ k, k = wrap64 (1 + wrap64 ((IntKind.u64.wrap a0).tmod 6)) := ⟨_, rfl⟩
  have hb : 1 ≤ k ∧ k ≤ 6 := by rw [hk]; unfold wrap64 at *; omega
  obtain ⟨g1, g3, g4, g5, g6⟩ := good_ref
  by_cases h2 : k = 2
  · subst h2
    exact buf a0 a1 w hk rfl rfl (by rw [fld_eq]; kernel_rfl)
  have hn : needV k a1 = ((refL k).length : Int) := by rw [needV, if_neg h2, cnt_eq]
  have hh : hasV k a1 = decide (0 < ((refL k).length : Int)) := by rw [hasV, if_neg h2, cnt_eq]
  have hc : k = 1 ∨ k = 3 ∨ k = 4 ∨ k = 5 ∨ k = 6 := by omega
  rcases hc with e | e | e | e | e
  · subst e; exact known a0 a1 1 0 9 w hk (by omega) (by rw [fld_eq]; exact g1) hn hh (by rw [fld_eq]; rfl) (by omega)
  · subst e; exact known a0 a1 3 0 7 w hk (by omega) (by rw [fld_eq]; exact g3) hn hh (by rw [fld_eq]; rfl) (by omega)
  · subst e; exact known a0 a1 4 0 10 w hk (by omega) (by rw [fld_eq]; exact g4) hn hh (by rw [fld_eq]; rfl) (by omega)
  · subst e; exact known a0 a1 5 0 2 w hk (by omega) (by rw [fld_eq]; exact g5) hn hh (by rw [fld_eq]; rfl) (by omega)
  · subst e; exact known a0 a1 6 0 2 w hk (by omega) (by rw [fld_eq]; exact g6) hn hh (by rw [fld_eq]; rfl) (by omega)

set_option maxRecDepth 100000 in
theorem lifted (os : Os) (started : os.Started) (H : Type) (enc : TypeId × Value → H) :
    ReturnsInHanded {} Try.checked os 10 .any (Rows.recordNamesSpec.pre6 enc Try.prog Try.f10 Rows.recordNamesRow.domain false) (Rows.recordNamesSpec.post enc Try.prog Try.f10 false true false false) := by
  refine returnsInHanded_of_change (C := Try.checked) own started (by kernel_rfl) Try.func10
    (ChangeSpec.witness6 (enc := enc) (C := Try.checked) false ⟨#[], #[.int .i64 0, .int .i64 0], []⟩ 8 (by kernel_rfl) (by kernel_rfl) (by kernel_rfl) (by kernel_rfl)) ?_
  intro W base args ds gs before hval0 hW hcnd _
  have hval : ∀ (j : Nat) t v, Try.f10.params[j]? = some t → args[j]? = some v → Value.okWide Try.prog W .any base t v := hval0
  have hW' := hW
  obtain ⟨p, q, hA0, hV, rfl, hfz, hnd⟩ := hW
  have hA : DataW.TrodAll enc Try.prog W 0 (fun _ => true) true Try.f10.params.toList args.toList ds p := hA0
  rw [Try.params10] at hA hval
  obtain ⟨v0, vs0, d0, ds0, p0, q0, hargs, rfl, rfl, h0, r0⟩ := trodAll_cons hA
  obtain ⟨v1, vs1, d1, ds1, p1, q1, rfl, rfl, rfl, h1, r1⟩ := trodAll_cons r0
  obtain ⟨rfl, rfl, rfl⟩ := trodAll_nil r1
  obtain rfl : args = #[v0, v1] := by cases args; simp_all
  obtain ⟨rfl, rfl⟩ := trodVars_none hV
  obtain ⟨a0, rfl, rfl, rfl, w0⟩ := open_int Try.underlying3 (hval 0 3 v0 rfl rfl) h0
  obtain ⟨a1, rfl, rfl, rfl, w1⟩ := open_int Try.underlying3 (hval 1 3 v1 rfl rfl) h1
  clear hA0 hval0
  simp only [List.append_nil] at hW'
  refine (walk a0 w0 a1 w1 W).mono fun e W' ⟨he, hg⟩ => ?_
  subst he
  exact ⟨_, rfl, law_post (pa := []) (pv := []) hW' (fun _ _ _ => (trodAll_cons_mk (shut_bool Try.underlying4 _) trodAll_mk0)) (fun sp _ => (trodAll_cons_mk (shut_int Try.underlying3 w0) (trodAll_cons_mk (shut_int Try.underlying3 w1) trodAll_mk0))) (fun _ _ => rfl) rfl
    hg (ok_one (by kernel_rfl) rfl (okWide_bool_mk Try.underlying4 _))⟩

theorem over : Rows.recordNamesRow.holds Try.pinned (OpenSpec.ofChange Rows.recordNamesSpec) :=
  OpenClaim.holds_of_wide 10 Try.f10 rfl rfl rfl rfl rfl rfl rfl ⟨rfl, rfl, rfl, rfl, rfl⟩ rfl rfl rfl rfl rfl (by kernel_rfl) Try.func10 (by kernel_rfl)
    (of_decide_eq_true (by kernel_rfl)) (by unfold Func.isWrapper; first | (rw [if_pos (by decide +kernel)]; kernel_rfl) | (rw [if_neg (by decide +kernel)]; exact ⟨rfl, rfl⟩))
    (fun os started H enc _ => lifted os started H enc)

theorem proved : Rows.RecordNamesSaid :=
  over
#print axioms proved
end Go.Proofs.Ythcddbfjjkniiaa.recordNames
