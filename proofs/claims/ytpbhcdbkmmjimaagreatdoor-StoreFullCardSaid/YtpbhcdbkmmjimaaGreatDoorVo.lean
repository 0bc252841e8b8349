/-
  Arguments that are structs of numbers, and of rows of numbers.
-/
import Derived.Test.YtpbhcdbkmmjimaaGreatDoorBf
import Derived.OpenShut
namespace Go.Proofs.YtpbhcdbkmmjimaaGreatDoor
open Go Go.LX Go.RowKit Go.ChangeShapes Go.WideShapes
set_option maxHeartbeats 32000000
def intsB (P : Program) (t : TypeId) (m : Nat) : Bool :=
 match P.underlying t with
 | some (.struct fs) => P.cellsOf t == m && (List.range m).all fun j => (List.range fs.size).any fun i => match fs[i]? with
  | some f => match P.underlying f.type with
   | some (.int .i64) => f.offset == j && P.cellsOf f.type == 1
   | some (.array n e) => decide (f.offset ≤ j) && decide (j < f.offset + n) && P.cellsOf f.type == n && P.cellsOf e == 1 && CK.is (.i .i64) (P.underlying e)
   | _ => false
  | none => false
 | _ => false
section
variable {H : Type} {enc : TypeId × Value → H} {P : Program} {W : World}
theorem take_one {cs : List Value} {j : Nat} {v : Value} (h : (cs.drop j).take 1 = [v]) : cs[j]? = some v := by
 have e1 : ((cs.drop j).take 1)[0]? = some v := by rw [h]; rfl
 rw [List.getElem?_take,if_pos (by omega),List.getElem?_drop,Nat.add_zero] at e1
 exact e1
theorem ints_of : ∀ (cs : List Value),(∀ (j : Nat) (v : Value),cs[j]? = some v → ∃ n,v = .int .i64 n ∧ (Lit.int .i64 n).wf = true) → ∃ ns : List Int,cs = ns.map (fun n => Value.int .i64 n) ∧ ∀ n ∈ ns,(Lit.int .i64 n).wf = true
 | [],_ => ⟨[],rfl,fun n h => by cases h⟩
 | c :: cs,h => by
  obtain ⟨n,rfl,hw⟩ := h 0 c rfl
  obtain ⟨ns,rfl,hn⟩ := ints_of cs fun j v hj => h (j + 1) v (by simpa using hj)
  refine ⟨n :: ns,rfl,fun x hx => ?_⟩
  rcases List.mem_cons.1 hx with e | e
  ·rw [e]; exact hw
  ·exact hn x e
theorem ints_trod {t : TypeId} {m : Nat} {base fuel : Nat} {spare : Nat → Bool} {held : Bool} {cs : List Value} {x : DataW H × List MemPlace} (hk : intsB P t m = true) (h : DataW.trod enc P W base spare held fuel t cs = some x) :
  ∃ ns : List Int,ns.length = m ∧ cs = ns.map (fun n => Value.int .i64 n) ∧ ∀ n ∈ ns,(Lit.int .i64 n).wf = true := by
 unfold intsB at hk
 split at hk
 ·rename_i fs hu
  simp only [Bool.and_eq_true,beq_iff_eq,List.all_eq_true,List.mem_range,List.any_eq_true] at hk
  obtain ⟨h1,h3⟩ := hk
  obtain ⟨xs,n,_,_,h4,h5,h6⟩ := DataW.trod_struct hu h
  obtain ⟨ns,e1,e2⟩ := ints_of cs fun j v hj => by
   have hlt := (List.getElem?_eq_some_iff.1 hj).1
   obtain ⟨i,hi,h7⟩ := h3 j (by omega)
   split at h7
   ·rename_i f hf
    have h11 := h6 i f hf
    rw [List.getElem?_eq_getElem (by omega : i < xs.length)] at h11
    split at h7
    ·rename_i hu2
     simp only [Bool.and_eq_true,beq_iff_eq] at h7
     rw [h7.1,h7.2] at h11
     obtain ⟨c,h12,_,h13⟩ := DataW.trod_int hu2 h11
     have := take_one h12
     rw [hj] at this
     exact ⟨c,Option.some.inj this,h13⟩
    ·rename_i k e hu2
     simp only [Bool.and_eq_true,beq_iff_eq,decide_eq_true_eq] at h7
     obtain ⟨⟨⟨⟨g1,g2⟩,g3⟩,g4⟩,g5⟩ := h7
     obtain ⟨ys,m2,_,_,k1,k2,k3⟩ := DataW.trod_array hu2 h11
     have k4 := k3 (j - f.offset) (by omega)
     rw [List.getElem?_eq_getElem (by omega : j - f.offset < ys.length),g4,Nat.mul_one] at k4
     obtain ⟨c,h12,n,rfl,h13⟩ := ck_trod g5 k4
     have := take_one h12
     rw [List.getElem?_take,List.getElem?_drop] at this
     split at this
     ·rw [show f.offset + (j - f.offset) = j by omega,hj] at this
      exact ⟨n,Option.some.inj this,h13⟩
     ·cases this
    ·cases h7
   ·cases h7
  refine ⟨ns,?_,e1,e2⟩
  rw [e1,List.length_map] at h4
  omega
 ·cases hk
theorem open_nums {t : TypeId} {m : Nat} {base : Nat} {v : Value} {d : DataW H} {ps : List MemPlace} (hk : intsB P t m = true) (hval : Value.okWide P W .any base t v) (h : DataW.Trod enc P W 0 (fun _ => true) true t v d ps) :
  ∃ ns : List Int,ns.length = m ∧ v = .agg (ns.map (fun n => Value.int .i64 n)).toArray ∧ ∀ n ∈ ns,(Lit.int .i64 n).wf = true := by
 have hk2 := hk
 unfold intsB at hk2
 split at hk2
 ·rename_i fs hu
  obtain ⟨cs,rfl,_⟩ := okWide_struct hu hval
  obtain ⟨fuel,hf⟩ := h
  obtain ⟨ns,h1,h2,h3⟩ := ints_trod hk hf
  refine ⟨ns,h1,?_,h3⟩
  have : cs.toList = ns.map (fun n => Value.int .i64 n) := h2
  rw [← this]
 ·cases hk2
end
theorem LR.nums {c : Ctx} {w : World} (ns : List Int) : LR c w (.agg (ns.map fun n => .p (.int .i64 (.sym n)))) (.agg (ns.map (fun n => Value.int .i64 n)).toArray) := by
 refine .agg _ _ (by simp) fun i u hu => ?_
 rw [List.getElem?_map] at hu
 cases e : ns[i]? with
 | none => rw [e] at hu; cases hu
 | some n =>
  rw [e] at hu
  cases hu
  rw [Array.getD_eq_getD_getElem?,List.getElem?_toArray,List.getElem?_map,e]
  exact LR.of_int _ _
end Go.Proofs.YtpbhcdbkmmjimaaGreatDoor
