/-
  Layer 21: numbers, sorted by the law's own hand.
-/
import Derived.Test.YtpbhcdbkmmjimaaGreatDoorV1
import Derived.Test.YtpbhcdbkmmjimaaGreatDoorBd
namespace Go.Proofs.YtpbhcdbkmmjimaaGreatDoor
open Go Go.LX
set_option maxRecDepth 100000
set_option linter.unusedVariables false
set_option linter.unusedSimpArgs false
set_option maxHeartbeats 32000000
theorem asc_get {B : List Int} (h : B.Pairwise (· < ·)) {i j : Nat} {x y : Int} (hij : i < j) (hx : B[i]? = some x) (hy : B[j]? = some y) : x < y := by
 obtain ⟨h1,rfl⟩ := List.getElem?_eq_some_iff.1 hx
 obtain ⟨h2,rfl⟩ := List.getElem?_eq_some_iff.1 hy
 exact List.pairwise_iff_getElem.1 h i j h1 h2 hij
theorem ins_asc {B : List Int} {a p : Int} (hB : B.Pairwise (· < ·)) (h1 : ∀ (j : Nat) x,(j : Int) < p → B[j]? = some x → x < a) (h2 : ∀ (j : Nat) y,p ≤ j → B[j]? = some y → a < y) (hp : 0 ≤ p) : (B.take p.toNat ++ [a] ++ B.drop p.toNat).Pairwise (· < ·) := by
 have ht : ∀ x ∈ B.take p.toNat,x < a := by
  intro x hx
  obtain ⟨j,hj⟩ := List.getElem?_of_mem hx
  rw [List.getElem?_take] at hj
  split at hj
  ·exact h1 j x (by omega) hj
  ·cases hj
 have hd : ∀ x ∈ B.drop p.toNat,a < x := by
  intro x hx
  obtain ⟨j,hj⟩ := List.getElem?_of_mem hx
  rw [List.getElem?_drop] at hj
  exact h2 _ x (by omega) hj
 refine List.pairwise_append.2 ⟨List.pairwise_append.2 ⟨hB.sublist (List.take_sublist ..),by simp,fun x hx y hy => ?_⟩,hB.sublist (List.drop_sublist ..),fun x hx y hy => ?_⟩
 ·rw [List.mem_singleton.1 hy]; exact ht x hx
 ·rcases List.mem_append.1 hx with q | q
  ·exact Int.lt_trans (ht x q) (hd y hy)
  ·rw [List.mem_singleton.1 q]; exact hd y hy
theorem ins_mem {A B : List Int} {a p : Int} {i : Nat} (h : ∀ x,x ∈ B ↔ x ∈ A.take i) (ha : A[i]? = some a) (x : Int) : x ∈ B.take p.toNat ++ [a] ++ B.drop p.toNat ↔ x ∈ A.take (i + 1) := by
 rw [List.take_add_one,ha,List.mem_append,List.mem_append,List.mem_append,← h x]
 conv => rhs; rw [← List.take_append_drop p.toNat B]
 rw [List.mem_append]
 simp only [Option.toList_some,List.mem_singleton]
 constructor
 ·rintro ((q | q) | q)
  ·exact .inl (.inl q)
  ·exact .inr q
  ·exact .inl (.inr q)
 ·rintro ((q | q) | q)
  ·exact .inl (.inl q)
  ·exact .inr q
  ·exact .inl (.inr q)
theorem not_take {A : List Int} (hA : A.Nodup) {i : Nat} {a : Int} (ha : A[i]? = some a) : a ∉ A.take i := by
 intro h
 obtain ⟨j,hj⟩ := List.getElem?_of_mem h
 rw [List.getElem?_take] at hj
 split at hj
 ·rename_i hji
  have h1 := (List.getElem?_eq_some_iff.1 ha)
  have h2 := (List.getElem?_eq_some_iff.1 hj)
  exact absurd ((List.getElem_inj hA).1 (h2.2.trans h1.2.symm)) (by omega)
 ·cases hj
theorem sorted21_lx (A : List Int) (k : Int) (cells : List PV) (hk : k = A.length) (hcs : cells = ipv A) (hAl : A.length ≤ 100000) (hA : A.Nodup) : CallF (fun _ => Tryz.prog) 34 [.p (.vsl (.sym k) true cells)] [] 0 (fun r h n => ∃ (B : List Int) (m : Int) (T : List PV),r = .sl 0 3 1 (.lit 0) (.sym m) ∧ h = [hpP 0 T] ∧ n = 1 ∧ T = ipv B ∧ m = B.length ∧ B.Pairwise (· < ·) ∧ ∀ x,x ∈ B ↔ x ∈ A) := by
 have hcl : cells.length = A.length := by rw [hcs,ipv_length]
 refine callF_of_body tok Tryz.func34 (by kernel_rfl) rfl rfl rfl ?_; conv => cbv
 refine LoopF.mk (fun kk s => ∃ (i m : Int) (B : List Int) (T : List PV),s = ⟨.p (.vsl (.sym k) true cells) :: .undef :: .p .nils :: .sl 0 3 1 (.lit 0) (.sym m) :: .p (.int .i64 (.sym i)) :: undefs 40,[hpP 0 T],1⟩ ∧ 0 ≤ i ∧ i ≤ k ∧ T = ipv B ∧ m = B.length ∧ m = i ∧ B.Pairwise (· < ·) ∧ (∀ x,x ∈ B ↔ x ∈ A.take i.toNat) ∧ kk = (k - i).toNat) k.toNat _
  (Re.at [] [0]) ⟨0,0,[],[],rfl,by omega,by omega,rfl,rfl,rfl,.nil,fun x => Iff.rfl,by omega⟩ ?_
 rintro kk s ⟨i,m,B,T,rfl,hi0,hi1,hT,hm,hmi,hB,hBm,hkk⟩
 have hTl : T.length = B.length := by rw [hT,ipv_length]
 conv => cbv
 refine Br.mk (fun q => ?_) (fun q => ?_)
 case refine_2 =>
  have q : ¬ i < k := q
  rw [List.take_of_length_le (by omega : A.length ≤ i.toNat)] at hBm
  conv => cbv
  refine RetF.mk [.sl 0 3 1 (.lit 0) (.sym m)] [hpP 0 T] 1 (Re.at [(0,0)] []) rfl ⟨B,m,T,rfl,rfl,rfl,hT,hm,hB,hBm⟩
 have q : i < k := q
 obtain ⟨a,ha⟩ : ∃ a,A[i.toNat]? = some a := ⟨_,List.getElem?_eq_getElem (by omega)⟩
 have hca : cells[i.toNat]? = some (.int .i64 (.sym a)) := by rw [hcs]; exact ipv_get ha
 have haB : a ∉ B := fun w => not_take hA ha ((hBm a).1 w)
 conv => cbv
 refine LoopF.mk (fun kq s => ∃ (p : Int),s = ⟨.p (.vsl (.sym k) true cells) :: .undef :: .p .nils :: .sl 0 3 1 (.lit 0) (.sym m) :: .p (.int .i64 (.sym i)) :: .p (.int .i64 (.sym p)) :: undefs 39,[hpP 0 T],1⟩ ∧ 0 ≤ p ∧ p ≤ m ∧ (∀ (j : Nat) y,p ≤ j → B[j]? = some y → a < y) ∧ kq = p.toNat) m.toNat _
  (Re.at [(0,0)] []) ⟨m,rfl,by omega,by omega,fun j y hj hy => (by have := (List.getElem?_eq_some_iff.1 hy).1; omega),rfl⟩ ?_
 rintro kq s ⟨p,rfl,hp0,hp1,hpb,hkq⟩
 conv => cbv
 refine drawn_sound tok (by kernel_rfl) [] [0,1,2,3,4,5,6,7,8,9,10,11,12,13] (by kernel_rfl) ?_; conv => cbv
 conv => cbv
 refine Br.mk (fun q2 => ?_) (fun q2 => ?_)
 ·have q2 : 0 < p := q2
  obtain ⟨y,hy⟩ : ∃ y,B[(p - 1).toNat]? = some y := ⟨_,List.getElem?_eq_getElem (by omega)⟩
  have hTy : T[(p - 1).toNat]? = some (.int .i64 (.sym y)) := by rw [hT]; exact ipv_get hy
  conv => cbv
  refine Fit.mk (by show (-9223372036854775808 : Int) ≤ p - 1; omega) (by show p - 1 ≤ 9223372036854775807; omega) fun p1 hp1' => ?_
  have hp1' : p1 = p - 1 := hp1'
  rw [← hp1'] at hy hTy
  conv => cbv
  refine Need.mk ⟨by show 0 ≤ p1; omega,by show p1 < m; omega⟩ ?_
  conv => cbv
  refine Cell.at p1 _ hTy (by simp [I.val]) rfl ?_
  conv => cbv
  refine Need.mk ⟨hi0,q⟩ ?_
  conv => cbv
  refine Cell.at i _ hca (by simp [I.val]) rfl ?_
  conv => cbv
  refine Br.mk (fun q3 => ?_) (fun q3 => ?_)
  ·have q3 : a < y := q3
   conv => cbv
   refine Fit.mk (by show (-9223372036854775808 : Int) ≤ p - 1; omega) (by show p - 1 ≤ 9223372036854775807; omega) fun p2 hp2 => ?_
   have hp2 : p2 = p - 1 := hp2
   conv => cbv
   refine Again.mk p2.toNat _ (by omega) (Re.at [(0,0)] []) ⟨p2,rfl,by omega,by omega,fun j y' hj hy' => ?_,rfl⟩
   have hj : p2 ≤ (j : Int) := hj
   by_cases e : (j : Int) = p2
   ·rw [show j = p1.toNat by omega,hy] at hy'
    cases hy'; exact q3
   ·exact hpb j y' (show p ≤ (j : Int) by omega) hy'
  have q3 : ¬ a < y := q3
  have hlow : ∀ (j : Nat) x,(j : Int) < p → B[j]? = some x → x < a := by
   intro j x hj hx
   have hle : x ≤ y := by
    by_cases e : (j : Int) = p1
    ·rw [show j = p1.toNat by omega,hy] at hx; cases hx; omega
    ·exact Int.le_of_lt (asc_get hB (by omega : j < p1.toNat) hx hy)
   have hne : x ≠ a := fun e => haB (by rw [← e]; exact List.mem_of_getElem? hx)
   omega
  conv => cbv
  refine read_sound tok (by kernel_rfl) [] [8] [(3,[12,11,10,8,7,6,5,4]),(9,[12,11,10]),(13,[])] [0,1,2,4,5,6,7,8,10,11,12,3,9,13,14] (by kernel_rfl) ?_
  conv => cbv
  refine Need.mk ⟨hp0,.inl hp1⟩ ?_
  conv => cbv
  refine Need.mk ⟨hi0,q⟩ ?_
  conv => cbv
  refine Cell.at i _ hca (by simp [I.val]) rfl ?_
  conv => cbv
  refine Room.new ⟨hp0,hp1⟩ ?_
  conv => cbv
  refine Sum.mk fun mp hmp => ?_
  have hmp : mp = m - p := hmp
  conv => cbv
  refine Room.within ⟨hp0,by show p * 1 ≤ (T.length : Int); omega⟩ ?_
  conv => cbv
  refine Upd.mk fun c1 hc1 => ?_
  have hc1 : c1 = ipv (B.take p.toNat) := by rw [show c1 = T.take (p.toNat * 1) from hc1,Nat.mul_one,hT]; exact (List.map_take ..).symm
  have hc1l : c1.length = p.toNat := by rw [hc1,ipv_length,List.length_take]; omega
  conv => cbv
  refine Need.mk ⟨by show p * 8 ≤ 140737488355328; omega,by show p ≤ 9223372036854775807; omega⟩ ?_
  conv => cbv
  refine Need.mk rfl ?_
  conv => cbv
  refine Room.new ⟨by show (c1.length : Int) = p * 1; omega,by show (p + 1) * 8 ≤ 140737488355328; omega,by show p + 1 ≤ 9223372036854775807; omega⟩ ?_
  conv => cbv
  refine Upd.mk fun c2 hc2 => ?_
  have hc2 : c2 = ipv (B.take p.toNat ++ [a]) := by rw [show c2 = c1 ++ [.int .i64 (.sym a)] from hc2,← ipv_app,← hc1]; rfl
  have hc2l : c2.length = p.toNat + 1 := by rw [hc2,ipv_length,List.length_append,List.length_take]; show _ + 1 = _; omega
  conv => cbv
  refine Sum.mk fun p2 hp2 => ?_
  have hp2 : p2 = p + 1 := hp2
  conv => cbv
  refine Need.mk ⟨hp0,by show 0 ≤ mp; omega,by show p + mp * 1 ≤ (T.length : Int); omega⟩ ?_
  conv => cbv
  refine Upd.mk fun c3 hc3 => ?_
  have hc3 : c3 = ipv (B.drop p.toNat) := by
   rw [show c3 = (T.drop p.toNat).take (mp.toNat * 1) from hc3,List.take_of_length_le (by rw [List.length_drop]; omega),hT]
   exact (List.map_drop ..).symm
  have hc3l : c3.length = mp.toNat := by rw [hc3,ipv_length,List.length_drop]; omega
  conv => cbv
  refine Room.new ⟨by show (c2.length : Int) = p2 * 1; omega,by show (p2 + mp) * 8 ≤ 140737488355328; omega,by show p2 + mp ≤ 9223372036854775807; omega⟩ ?_
  conv => cbv
  refine Upd.mk fun c4 hc4 => ?_
  have hc4 : c4 = ipv (B.take p.toNat ++ [a] ++ B.drop p.toNat) := by rw [show c4 = c2 ++ c3 from hc4,hc2,hc3]; simp [ipv]
  conv => cbv
  refine Sum.mk fun m4 hm4 => ?_
  have hm4 : m4 = p2 + mp := hm4
  have hm5 : m4 = ((B.take p.toNat ++ [a] ++ B.drop p.toNat).length : Int) := by
   rw [List.length_append,List.length_append,List.length_take,List.length_drop,show ([a] : List Int).length = 1 from rfl]
   omega
  conv => cbv
  refine Fit.mk (by show (-9223372036854775808 : Int) ≤ i + 1; omega) (by show i + 1 ≤ 9223372036854775807; omega) fun i2 hi2 => ?_
  have hi2 : i2 = i + 1 := hi2
  have hi2n : i2.toNat = i.toNat + 1 := by omega
  conv => cbv
  refine Again.mk (k - i2).toNat _ (by omega) (Re.at [(3,0)] []) ⟨i2,m4,_,c4,rfl,by omega,by omega,hc4,hm5,by omega,ins_asc hB hlow hpb hp0,fun x => by rw [hi2n]; exact ins_mem hBm ha x,rfl⟩
 have q2 : ¬ 0 < p := q2
 have hp00 : p = 0 := by omega
 conv => cbv
 have hlow : ∀ (j : Nat) x,(j : Int) < p → B[j]? = some x → x < a := fun j x hj _ => by omega
 refine read_sound tok (by kernel_rfl) [] [8] [(3,[12,11,10,8,7,6,5,4]),(9,[12,11,10]),(13,[])] [0,1,2,4,5,6,7,8,10,11,12,3,9,13,14] (by kernel_rfl) ?_
 conv => cbv
 refine Need.mk ⟨hp0,.inl hp1⟩ ?_
 conv => cbv
 refine Need.mk ⟨hi0,q⟩ ?_
 conv => cbv
 refine Cell.at i _ hca (by simp [I.val]) rfl ?_
 conv => cbv
 refine Room.new ⟨hp0,hp1⟩ ?_
 conv => cbv
 refine Sum.mk fun mp hmp => ?_
 have hmp : mp = m - p := hmp
 conv => cbv
 refine Room.within ⟨hp0,by show p * 1 ≤ (T.length : Int); omega⟩ ?_
 conv => cbv
 refine Upd.mk fun c1 hc1 => ?_
 have hc1 : c1 = ipv (B.take p.toNat) := by rw [show c1 = T.take (p.toNat * 1) from hc1,Nat.mul_one,hT]; exact (List.map_take ..).symm
 have hc1l : c1.length = p.toNat := by rw [hc1,ipv_length,List.length_take]; omega
 conv => cbv
 refine Need.mk ⟨by show p * 8 ≤ 140737488355328; omega,by show p ≤ 9223372036854775807; omega⟩ ?_
 conv => cbv
 refine Need.mk rfl ?_
 conv => cbv
 refine Room.new ⟨by show (c1.length : Int) = p * 1; omega,by show (p + 1) * 8 ≤ 140737488355328; omega,by show p + 1 ≤ 9223372036854775807; omega⟩ ?_
 conv => cbv
 refine Upd.mk fun c2 hc2 => ?_
 have hc2 : c2 = ipv (B.take p.toNat ++ [a]) := by rw [show c2 = c1 ++ [.int .i64 (.sym a)] from hc2,← ipv_app,← hc1]; rfl
 have hc2l : c2.length = p.toNat + 1 := by rw [hc2,ipv_length,List.length_append,List.length_take]; show _ + 1 = _; omega
 conv => cbv
 refine Sum.mk fun p2 hp2 => ?_
 have hp2 : p2 = p + 1 := hp2
 conv => cbv
 refine Need.mk ⟨hp0,by show 0 ≤ mp; omega,by show p + mp * 1 ≤ (T.length : Int); omega⟩ ?_
 conv => cbv
 refine Upd.mk fun c3 hc3 => ?_
 have hc3 : c3 = ipv (B.drop p.toNat) := by
  rw [show c3 = (T.drop p.toNat).take (mp.toNat * 1) from hc3,List.take_of_length_le (by rw [List.length_drop]; omega),hT]
  exact (List.map_drop ..).symm
 have hc3l : c3.length = mp.toNat := by rw [hc3,ipv_length,List.length_drop]; omega
 conv => cbv
 refine Room.new ⟨by show (c2.length : Int) = p2 * 1; omega,by show (p2 + mp) * 8 ≤ 140737488355328; omega,by show p2 + mp ≤ 9223372036854775807; omega⟩ ?_
 conv => cbv
 refine Upd.mk fun c4 hc4 => ?_
 have hc4 : c4 = ipv (B.take p.toNat ++ [a] ++ B.drop p.toNat) := by rw [show c4 = c2 ++ c3 from hc4,hc2,hc3]; simp [ipv]
 conv => cbv
 refine Sum.mk fun m4 hm4 => ?_
 have hm4 : m4 = p2 + mp := hm4
 have hm5 : m4 = ((B.take p.toNat ++ [a] ++ B.drop p.toNat).length : Int) := by
  rw [List.length_append,List.length_append,List.length_take,List.length_drop,show ([a] : List Int).length = 1 from rfl]
  omega
 conv => cbv
 refine Fit.mk (by show (-9223372036854775808 : Int) ≤ i + 1; omega) (by show i + 1 ≤ 9223372036854775807; omega) fun i2 hi2 => ?_
 have hi2 : i2 = i + 1 := hi2
 have hi2n : i2.toNat = i.toNat + 1 := by omega
 conv => cbv
 refine Again.mk (k - i2).toNat _ (by omega) (Re.at [(3,0)] []) ⟨i2,m4,_,c4,rfl,by omega,by omega,hc4,hm5,by omega,ins_asc hB hlow hpb hp0,fun x => by rw [hi2n]; exact ins_mem hBm ha x,rfl⟩
end Go.Proofs.YtpbhcdbkmmjimaaGreatDoor
