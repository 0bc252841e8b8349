/-
  strconv.Itoa, strconv.Atoi and strings.TrimSuffix, by the library's contracts, in the calculus.
-/
import Derived.Test.YtllafhhnciobhaaGreatDoorLxFrame
import Derived.Test.YtllafhhnciobhaaGreatDoorTab
import Derived.Test.YtllafhhnciobhaaGreatDoorShelf
import Derived.Lib.AtoiErrMem
import Derived.Lib.LaidTab
import Derived.Laws.RangeAny
import Derived.Lib.ItoaLen
namespace Go.Proofs.YtllafhhnciobhaaGreatDoor

open Go Go.LX
set_option maxRecDepth 100000
set_option linter.unusedVariables false

/-- The table of the powers of ten, as it is laid. -/
def IsPow (o : Unit → Obj) : Prop := ∃ t fr, o () = .cells (Lib.pow10Tab.map fun z => Value.int .u64 z).toArray t fr
theorem one_arg {c : Ctx} {w : World} {u : LV} {xs : Array Value} (hl : [u].length = xs.size) (hrel : ∀ (i : Nat) (v : LV), [u][i]? = some v → LR c w v (xs.getD i Go.undef)) : ∃ x, xs = #[x] ∧ LR c w u x := by
  have h0 := hrel 0 u rfl
  rcases xs with ⟨l⟩
  match l, hl with
  | [x], _ => exact ⟨x, rfl, h0⟩
theorem two_args {c : Ctx} {w : World} {u v : LV} {xs : Array Value} (hl : [u, v].length = xs.size) (hrel : ∀ (i : Nat) (z : LV), [u, v][i]? = some z → LR c w z (xs.getD i Go.undef)) : ∃ x y, xs = #[x, y] ∧ LR c w u x ∧ LR c w v y := by
  have h0 := hrel 0 u rfl
  have h1 := hrel 1 v rfl
  rcases xs with ⟨l⟩
  match l, hl with
  | [x, y], _ => exact ⟨x, y, rfl, h0, h1⟩
theorem grow_below (w : World) (k : Nat) (os : Array Obj) : RowKit.Below w.heap.size w (Go.Sort.grow (w.drewN k) os) := by
  refine ⟨rfl, rfl, rfl, by simp [Go.Sort.grow], fun i hi => ?_⟩
  show (w.heap ++ os)[i]? = w.heap[i]?
  rw [Array.getElem?_append_left hi]
theorem itoa_lx (n : Int) (h0 : -9223372036854775808 ≤ n) (h1 : n ≤ 9223372036854775807) (o : Unit → Obj) (ho : IsPow o) :
    CallF (fun _ => Tryz.prog) 94 [.p (.int .i64 (.sym n))] [(0, .fix 0 o)] 1 (fun r h n' => (∃ z : ByteArray, r = .p (.str fun _ => z) ∧ z = ⟨(Lib.itoa n).toArray⟩) ∧ h = [(0, .fix 0 o)] ∧ n' = 1) := by
  refine callF_calls (K := fun r => ∃ z : ByteArray, r = .p (.str fun _ => z) ∧ z = ⟨(Lib.itoa n).toArray⟩) ⟨_, _, Tryz.func94, by kernel_rfl, rfl⟩ fun c w xs hr hN hl hrel => ?_
  obtain ⟨x, rfl, hx⟩ := one_arg hl hrel
  have hx : x = .int .i64 n := hx.inv_int
  subst hx
  obtain ⟨m, hm, hB⟩ := hr.live 0 _ rfl
  cases m with
  | some r => exact hB.elim
  | none =>
    obtain ⟨hheap, _⟩ := hB
    obtain ⟨t, fr, hot⟩ := ho
    have htab : Lib.TabIs Tryz.prog w "internal/strconv.uint64pow10" .u64 Lib.pow10Tab := by
      have hg : Tryz.prog.globalNamed "internal/strconv.uint64pow10" = some 0 := by kernel_rfl
      unfold Lib.TabIs World.var?
      rw [hg]
      simp only [Option.bind_some, hheap, hot]
    refine (Tryz.strconv_Itoa n h0 h1 w htab).mono fun e w' ⟨he, k, os, hw⟩ => ?_
    subst hw
    exact ⟨_, _, he, ⟨_, rfl, rfl⟩, grow_below w k os, fun c' => .p _ _ (.str _)⟩
theorem atoi_lx (z : ByteArray) (v : Int) (hz : z.size ≤ 9223372036854775806) (hv : Lib.atoiAll z.data.toList = .ok v) :
    CallF (fun _ => Tryz.prog) 115 [.p (.str fun _ => z)] [] 0 (fun r h n' => r = .tup [.p (.int .i64 (.sym v)), .p .nilif] ∧ h = [] ∧ n' = 0) := by
  refine callF_calls (K := fun r => r = .tup [.p (.int .i64 (.sym v)), .p .nilif]) ⟨_, _, Tryz.func115, by kernel_rfl, rfl⟩ fun c w xs hr hN hl hrel => ?_
  obtain ⟨x, rfl, hx⟩ := one_arg hl hrel
  have hx : x = .string z := hx.inv_str
  subst hx
  refine (Tryz.strconv_Atoi_ok z hz v hv w).mono fun e w' ⟨he, hw⟩ => ?_
  refine ⟨_, _, he, rfl, ?_, fun c' => .tup _ _ rfl fun j u hj => ?_⟩
  · rcases hw with rfl | ⟨t, rfl⟩
    · exact RowKit.Below.refl _ _
    · exact Lib.bytesWorld_below w _ t
  · rcases j with _ | _ | j
    · simp at hj; subst hj; exact .p _ _ (.int _ _ _ rfl)
    · simp at hj; subst hj; exact .p _ _ .nilif
    · simp at hj
theorem trimSuffix_lx (z p : ByteArray) (hz : z.size ≤ 9223372036854775807) :
    CallF (fun _ => Tryz.prog) 121 [.p (.str fun _ => z), .p (.str fun _ => p)] [] 0 (fun r h n' => (∃ y : ByteArray, r = .p (.str fun _ => y) ∧ y = ⟨(Lib.trimSuffix z.data.toList p.data.toList).toArray⟩) ∧ h = [] ∧ n' = 0) := by
  refine callF_calls (K := fun r => ∃ y : ByteArray, r = .p (.str fun _ => y) ∧ y = ⟨(Lib.trimSuffix z.data.toList p.data.toList).toArray⟩) ⟨_, _, Tryz.func121, by kernel_rfl, rfl⟩ fun c w xs hr hN hl hrel => ?_
  obtain ⟨x, y, rfl, hx, hy⟩ := two_args hl hrel
  have hx : x = .string z := hx.inv_str
  have hy : y = .string p := hy.inv_str
  subst hx hy
  refine (Tryz.strings_TrimSuffix z p w hz).mono fun e w' ⟨he, hw⟩ => ?_
  subst hw
  exact ⟨_, _, he, ⟨_, rfl, rfl⟩, RowKit.Below.refl _ _, fun c' => .p _ _ (.str _)⟩
end Go.Proofs.YtllafhhnciobhaaGreatDoor
/-
  Numerals, and places as signs.
-/
namespace Go.Proofs.YtllafhhnciobhaaGreatDoor

open Go Go.LX
set_option maxRecDepth 100000
set_option linter.unusedVariables false

theorem dec_small {u : Nat} (h : u < 10) : Lib.decDigits u = [UInt8.ofNat (48 + u)] := Lib.decDigits_one h
theorem dec_big {u : Nat} (h : ¬ u < 10) : Lib.decDigits u = Lib.decDigits (u / 10) ++ [UInt8.ofNat (48 + u % 10)] := by
  rw [Lib.decDigits, dif_neg h]
theorem digit_nat {d : Nat} (h : d < 10) : (UInt8.ofNat (48 + d)).toNat = 48 + d := by
  simp; omega
theorem parse_dec : ∀ (u : Nat), u ≤ 9223372036854775808 → ∀ r, Lib.parseUint10 0 (Lib.decDigits u ++ r) = Lib.parseUint10 u r := by
  intro u
  induction u using Nat.strongRecOn with
  | ind u ih =>
    intro hu r
    by_cases h : u < 10
    · rw [dec_small h, List.cons_append, List.nil_append, Lib.parseUint10, digit_nat h, if_pos (by omega), if_neg (by omega), if_neg (by omega)]
      congr 1; omega
    · rw [dec_big h, List.append_assoc, ih (u / 10) (by omega) (by omega), List.cons_append, List.nil_append, Lib.parseUint10, digit_nat (Nat.mod_lt _ (by omega)), if_pos (by omega), if_neg (by omega), if_neg (by omega)]
      congr 1; omega
theorem dec_ne (u : Nat) : Lib.decDigits u ≠ [] := by
  by_cases h : u < 10
  · rw [dec_small h]; simp
  · rw [dec_big h]; simp
theorem dec_dig : ∀ (u : Nat), ∀ c ∈ Lib.decDigits u, 48 ≤ c.toNat ∧ c.toNat ≤ 57 := by
  intro u
  induction u using Nat.strongRecOn with
  | ind u ih =>
    intro c hc
    by_cases h : u < 10
    · rw [dec_small h] at hc
      rw [List.mem_singleton.1 hc, digit_nat h]; omega
    · rw [dec_big h] at hc
      rcases List.mem_append.1 hc with hc | hc
      · exact ih _ (by omega) c hc
      · rw [List.mem_singleton.1 hc, digit_nat (Nat.mod_lt _ (by omega))]; omega
theorem itoa_dig (a : Int) : ∀ c ∈ Lib.itoa a, c.toNat = 45 ∨ (48 ≤ c.toNat ∧ c.toNat ≤ 57) := by
  intro c hc
  unfold Lib.itoa at hc
  split at hc
  · rcases List.mem_cons.1 hc with rfl | hc
    · exact .inl rfl
    · exact .inr (dec_dig _ c hc)
  · exact .inr (dec_dig _ c hc)
theorem itoa_ne (a : Int) : Lib.itoa a ≠ [] := by
  unfold Lib.itoa
  split
  · simp
  · exact dec_ne _
theorem atoi_itoa (a : Int) (h0 : -9223372036854775808 ≤ a) (h1 : a ≤ 9223372036854775807) : Lib.atoiAll (Lib.itoa a) = .ok a := by
  unfold Lib.itoa
  by_cases h : a < 0
  · rw [if_pos h]
    have hp : Lib.parseMag (Lib.decDigits a.natAbs) = .ok a.natAbs := by
      rw [Lib.parseMag, if_neg (dec_ne _)]
      have := parse_dec a.natAbs (by omega) []
      rw [List.append_nil] at this
      rw [this]; rfl
    have h45 : (45 : UInt8).toNat = 45 := rfl
    have h43 : ¬ ((45 : Nat) = 43) := by omega
    simp only [Lib.atoiAll, h45, h43, or_true, if_true, hp, not_true, false_and, if_false, true_and]
    rw [if_neg (by omega)]
    congr 1; omega
  · rw [if_neg h]
    have hp : Lib.parseMag (Lib.decDigits a.toNat) = .ok a.toNat := by
      rw [Lib.parseMag, if_neg (dec_ne _)]
      have := parse_dec a.toNat (by omega) []
      rw [List.append_nil] at this
      rw [this]; rfl
    cases e : Lib.decDigits a.toNat with
    | nil => exact absurd e (dec_ne _)
    | cons c r =>
      have hc := dec_dig a.toNat c (by rw [e]; exact List.mem_cons_self)
      rw [e] at hp
      have h43 : ¬ (c.toNat = 43) := by omega
      have h45 : ¬ (c.toNat = 45) := by omega
      simp only [Lib.atoiAll, h43, h45, or_false, if_false, hp, not_false_iff, true_and, false_and]
      rw [if_neg (by omega)]
      congr 1; omega
/-- Places as signs: each numeral, and a blank behind it. -/
def enc : List Int → List UInt8
  | [] => []
  | a :: A => Lib.itoa a ++ 32 :: enc A
theorem enc_append : ∀ A B, enc (A ++ B) = enc A ++ enc B
  | [], B => rfl
  | a :: A, B => by simp [enc, enc_append A B]
theorem enc_low : ∀ (A : List Int), ∀ c ∈ enc A, c.toNat < 128
  | [], c, h => by cases h
  | a :: A, c, h => by
    rw [enc] at h
    rcases List.mem_append.1 h with h | h
    · have := itoa_dig a c h; omega
    · rcases List.mem_cons.1 h with rfl | h
      · decide
      · exact enc_low A c h
theorem count_itoa (a : Int) : (Lib.itoa a).count 32 = 0 := by
  rw [List.count_eq_zero]
  intro h
  have := itoa_dig a 32 h
  have h32 : (32 : UInt8).toNat = 32 := rfl
  omega
theorem enc_count : ∀ (A : List Int), (enc A).count 32 = A.length
  | [] => rfl
  | a :: A => by rw [enc, List.count_append, count_itoa, List.count_cons, enc_count A]; simp
theorem dec_at (l : List UInt8) (hl : ∀ c ∈ l, c.toNat < 128) (i : Nat) (c : UInt8) (h : l[i]? = some c) : Utf8.decode ⟨l.toArray⟩ i = (c.toNat, 1) := by
  have hi := (List.getElem?_eq_some_iff.1 h).1
  have hc : l[i] = c := (List.getElem?_eq_some_iff.1 h).2
  have hsz : i < (ByteArray.mk l.toArray).size := by show i < l.toArray.size; simpa using hi
  have hg : (ByteArray.mk l.toArray)[i]'hsz = c := by show l.toArray[i]'_ = c; simpa using hc
  have := decode_ascii ⟨l.toArray⟩ i hsz (by rw [hg]; exact hl c (List.mem_of_getElem? h))
  rw [this, hg]
set_option maxHeartbeats 2000000 in
theorem greyLen_lx (A : List Int) (z : ByteArray) (ov : Bool) (hz : z = ⟨(enc A).toArray⟩) (hA : (enc A).length < 1000000) :
    CallF (fun _ => Tryz.prog) 93 [.ptr 0 (.lit 0)] [(0, .pure false [.str fun _ => z, .bool ov])] 1 (fun r h n => ∃ m : Int, r = .p (.int .i64 (.sym m)) ∧ m = A.length ∧ h = [(0, .pure false [.str fun _ => z, .bool ov])] ∧ n = 1) := by
  refine callF_of_body tok Tryz.func93 (by kernel_rfl) rfl rfl rfl ?_; conv => cbv
  obtain ⟨N, hN⟩ : ∃ N : Int, N = (enc A).length := ⟨_, rfl⟩
  refine LoopF.mk (fun k s => ∃ (pos cnt : Int), s = ⟨.ptr 0 (.lit 0) :: .undef :: .undef :: .p (.int .i64 (.sym cnt)) :: (undefs 8 ++ .ptr 1 (.lit 0) :: undefs 8), [(1, .iter (fun _ => z) (.sym pos)), (0, .pure false [.str fun _ => z, .bool ov])], 2⟩ ∧ 0 ≤ pos ∧ pos ≤ N ∧ cnt = ((enc A).take pos.toNat).count 32 ∧ k = (N - pos).toNat) N.toNat _
    (Re.at [(0, 0), (1, 1)] []) ⟨0, 0, rfl, by omega, by omega, by simp, by omega⟩ ?_
  rintro k s ⟨pos, cnt, rfl, hp0, hp1, hcnt, hk⟩
  have hzs : (z.size : Int) = (enc A).length := by rw [hz]; show ((enc A).toArray.size : Int) = _; simp
  conv => cbv
  by_cases hend : pos = N
  · refine NextS.over (by show (z.size : Int) ≤ pos; omega) ?_
    conv => cbv
    refine RetF.mk [.p (.int .i64 (.sym cnt))] [(0, .pure false [.str fun _ => z, .bool ov])] 1 (Re.at [(0, 0)] []) rfl ⟨cnt, rfl, ?_, rfl, rfl⟩
    rw [hcnt, show pos.toNat = (enc A).length by omega, List.take_length, enc_count]
  · obtain ⟨c, hc⟩ : ∃ c, (enc A)[pos.toNat]? = some c := ⟨_, List.getElem?_eq_getElem (by omega)⟩
    have hlow := enc_low A c (List.mem_of_getElem? hc)
    have hd := dec_at (enc A) (enc_low A) pos.toNat c hc
    rw [← hz] at hd
    refine NextS.more (by show pos < (z.size : Int); omega) ?_
    intro r p' hr hp
    have hr : r = (c.toNat : Int) := by
      have : r = ((Utf8.decode z pos.toNat).1 : Int) := hr
      rw [this, hd]
    have hp : p' = pos + 1 := by
      have : p' = pos + ((Utf8.decode z pos.toNat).2 : Int) := hp
      rw [this, hd]; rfl
    have htake : (enc A).take p'.toNat = (enc A).take pos.toNat ++ [c] := by
      rw [show p'.toNat = pos.toNat + 1 by omega, List.take_add_one, hc]; rfl
    have hcl := List.count_le_length (a := (32 : UInt8)) (l := (enc A).take pos.toNat)
    have htl : ((enc A).take pos.toNat).length ≤ (enc A).length := by rw [List.length_take]; omega
    obtain ⟨k', rfl⟩ : ∃ k', k = k' + 1 := ⟨k - 1, by omega⟩
    conv => cbv
    refine Br.mk (fun g => ?_) (fun g => ?_)
    · have g : r = 32 := g
      have hc32 : c = 32 := UInt8.toNat_inj.1 (by show c.toNat = 32; omega)
      conv => cbv
      refine Fit.mk (by show (-9223372036854775808 : Int) ≤ cnt + 1; omega) (by show cnt + 1 ≤ 9223372036854775807; omega) ?_
      intro c2 hc2
      have hc2 : c2 = cnt + 1 := hc2
      conv => cbv
      refine Again.mk k' _ (Nat.lt_succ_self _) (Re.at [(0, 0), (1, 1)] []) ⟨p', c2, rfl, by omega, by omega, ?_, by omega⟩
      rw [htake, List.count_append, hc32, hc2, hcnt]; simp
    · have g : ¬ r = 32 := g
      have hc32 : ¬ c = 32 := fun h => g (by rw [hr, h]; rfl)
      conv => cbv
      refine Again.mk k' _ (Nat.lt_succ_self _) (Re.at [(0, 0), (1, 1)] []) ⟨p', cnt, rfl, by omega, by omega, ?_, by omega⟩
      rw [htake, List.count_append, hcnt]
      have : List.count (32 : UInt8) [c] = 0 := by rw [List.count_eq_zero]; simp; exact fun h => hc32 h.symm
      rw [this]; simp
theorem ext_from (l : List UInt8) (k : Nat) : (ByteArray.mk l.toArray).extract k (ByteArray.mk l.toArray).size = ⟨(l.drop k).toArray⟩ := by
  apply ByteArray.ext
  apply Array.ext'
  rw [ByteArray.data_extract]
  show (l.toArray.extract k l.toArray.size).toList = _
  simp
  exact List.take_of_length_le (by simp)
theorem ext_upto (l : List UInt8) (k : Nat) : (ByteArray.mk l.toArray).extract 0 k = ⟨(l.take k).toArray⟩ := by
  apply ByteArray.ext
  apply Array.ext'
  rw [ByteArray.data_extract]
  show (l.toArray.extract 0 k).toList = _
  simp
theorem enc_last : ∀ (A : List Int), A ≠ [] → (enc A)[(enc A).length - 1]? = some 32
  | [], h => absurd rfl h
  | [a], _ => by simp [enc]
  | a :: b :: A, _ => by
    have ih := enc_last (b :: A) (by simp)
    have hne : 0 < (enc (b :: A)).length := by simp [enc]; omega
    rw [enc]
    have hl : (Lib.itoa a ++ 32 :: enc (b :: A)).length - 1 = (Lib.itoa a).length + (((enc (b :: A)).length - 1) + 1) := by simp; omega
    rw [hl, List.getElem?_append_right (by omega), Nat.add_sub_cancel_left, List.getElem?_cons_succ]
    exact ih
theorem enc_end (A : List Int) (a : Int) : enc (A ++ [a]) = enc A ++ (Lib.itoa a ++ [32]) := by rw [enc_append]; rfl
set_option maxHeartbeats 2000000 in
theorem partLast_lx (A : List Int) (a : Int) (z : ByteArray) (hz : z = ⟨(enc (A ++ [a])).toArray⟩) (hA : (enc (A ++ [a])).length < 1000000) :
    CallF (fun _ => Tryz.prog) 114 [.p (.str fun _ => z)] [] 0 (fun r h n => (∃ x y : ByteArray, r = .tup [.p (.str fun _ => x), .p (.str fun _ => y)] ∧ x = ⟨(enc A).toArray⟩ ∧ y = ⟨(Lib.itoa a).toArray⟩) ∧ h = [] ∧ n = 0) := by
  generalize hE : enc (A ++ [a]) = E at hz hA
  have hE2 := hE
  rw [enc_end] at hE2
  obtain ⟨T, hT⟩ : ∃ T : Int, T = E.length := ⟨_, rfl⟩
  obtain ⟨L, hL⟩ : ∃ L : Int, L = (enc A).length := ⟨_, rfl⟩
  obtain ⟨D, hD⟩ : ∃ D : Int, D = (Lib.itoa a).length := ⟨_, rfl⟩
  have hTL : T = L + D + 1 := by rw [hT, ← hE2, hL, hD]; simp; omega
  have hD1 : 1 ≤ D := by
    have := itoa_ne a
    have : 0 < (Lib.itoa a).length := List.length_pos_iff.2 this
    omega
  have F1 : 0 < L → E[(L - 1).toNat]? = some 32 := fun h => by
    have hne : A ≠ [] := by rintro rfl; simp [enc] at hL; omega
    have := enc_last A hne
    rw [← hE2, List.getElem?_append_left (by omega), ← this]; congr 1; omega
  have F2 : ∀ (p : Int) (c : UInt8), L ≤ p → p < L + D → E[p.toNat]? = some c → c ≠ 32 := fun p c h1 h2 h3 h4 => by
    rw [← hE2, List.getElem?_append_right (by omega), List.getElem?_append_left (by omega)] at h3
    have := itoa_dig a c (List.mem_of_getElem? h3)
    subst h4
    have h32 : (32 : UInt8).toNat = 32 := rfl
    omega
  have F3 : E[(T - 1).toNat]? = some 32 := by
    rw [← hE2, List.getElem?_append_right (by omega), List.getElem?_append_right (by omega), show (T - 1).toNat - (enc A).length - (Lib.itoa a).length = 0 by omega]; rfl
  have hlowE : ∀ c ∈ E, c.toNat < 128 := by rw [← hE]; exact enc_low _
  have hzs : (z.size : Int) = T := by rw [hz, hT]; show (E.toArray.size : Int) = _; simp
  refine callF_of_body tok Tryz.func114 (by kernel_rfl) rfl rfl rfl ?_; conv => cbv
  refine LoopF.mk (fun k s => ∃ (pos fr nx : Int), s = ⟨.p (.str fun _ => z) :: .undef :: .undef :: .undef :: .p (.int .i64 (.sym fr)) :: .p (.int .i64 (.sym nx)) :: .undef :: .undef :: .undef :: .ptr 0 (.lit 0) :: undefs 16, [(0, .iter (fun _ => z) (.sym pos))], 1⟩ ∧ 0 ≤ pos ∧ pos ≤ T ∧ 0 ≤ fr ∧ fr ≤ T ∧ 0 ≤ nx ∧ nx ≤ T ∧ (pos = 0 → nx = 0) ∧ (0 < pos → E[(pos - 1).toNat]? = some 32 → nx = pos) ∧ (L ≤ pos → pos < T → nx = L) ∧ (pos = T → fr = L) ∧ k = (T - pos).toNat) T.toNat _
    (Re.at [(0, 0)] []) ⟨0, 0, 0, rfl, by omega, by omega, by omega, by omega, by omega, by omega, by omega, by omega, by omega, by omega, by omega⟩ ?_
  rintro k s ⟨pos, fr, nx, rfl, hp0, hp1, hf0, hf1, hn0, hn1, P1, P2, P3, P4, hk⟩
  conv => cbv
  by_cases hend : pos = T
  · refine NextS.over (by show (z.size : Int) ≤ pos; omega) ?_
    have hfr := P4 hend
    conv => cbv
    refine drawn_sound tok (by kernel_rfl) [(6, [2, 1, 0])] [0, 1, 2, 3, 4, 5, 6, 7, 8] (by kernel_rfl) ?_; conv => cbv
    refine Need.mk ⟨by simp only [I.val]; omega, by simp only [I.val]; omega, by show fr ≤ (z.size : Int); omega⟩ ?_
    conv => cbv
    refine Str.mk fun x hx => ?_
    have hx : x = z.extract 0 fr.toNat := hx
    conv => cbv
    refine Need.mk ⟨by simp only [I.val]; omega, by show fr ≤ (z.size : Int); omega⟩ ?_
    conv => cbv
    refine Str.mk fun y hy => ?_
    have hy : y = z.extract fr.toNat z.size := hy
    have hfn : fr.toNat = (enc A).length := by omega
    have hx2 : x = ⟨(enc A).toArray⟩ := by rw [hx, hz, ext_upto, hfn, ← hE2, List.take_left]
    have hy2 : y = ⟨(Lib.itoa a ++ [32]).toArray⟩ := by rw [hy, hz, ext_from, hfn, ← hE2, List.drop_left]
    have hys : (y.size : Int) ≤ 9223372036854775807 := by rw [hy2]; show (((Lib.itoa a ++ [32]).toArray.size : Nat) : Int) ≤ _; simp; omega
    conv => cbv
    refine callF_val (trimSuffix_lx y ⟨#[32]⟩ (by omega)) (by simp [ales, ale, renVs, renV, pvle_refl]) rfl (fun r ⟨u, hr, _⟩ => by subst hr; rfl) (fun r ⟨u, hr, hu⟩ => ?_)
    subst hr
    have hu2 : u = ⟨(Lib.itoa a).toArray⟩ := by
      rw [hu, hy2]
      have hs : Lib.hasSuffix (Lib.itoa a ++ [32]) [32] = true := by
        unfold Lib.hasSuffix; rw [List.isSuffixOf_iff_suffix]; exact List.suffix_append _ _
      show (⟨(Lib.trimSuffix (Lib.itoa a ++ [32]) [32]).toArray⟩ : ByteArray) = _
      unfold Lib.trimSuffix
      rw [if_pos hs]
      simp
    conv => cbv
    refine RetF.mk [.p (.str fun _ => x), .p (.str fun _ => u)] [] 0 (Re.at [] []) rfl ⟨⟨x, u, rfl, hx2, hu2⟩, rfl, rfl⟩
  · obtain ⟨c, hc⟩ : ∃ c, E[pos.toNat]? = some c := ⟨_, List.getElem?_eq_getElem (by omega)⟩
    have hlow := hlowE c (List.mem_of_getElem? hc)
    have hd := dec_at E hlowE pos.toNat c hc
    rw [← hz] at hd
    refine NextS.more (by show pos < (z.size : Int); omega) ?_
    intro r p' hr hp
    have hr : r = (c.toNat : Int) := by
      have : r = ((Utf8.decode z pos.toNat).1 : Int) := hr
      rw [this, hd]
    have hp : p' = pos + 1 := by
      have : p' = pos + ((Utf8.decode z pos.toNat).2 : Int) := hp
      rw [this, hd]; rfl
    obtain ⟨k', rfl⟩ : ∃ k', k = k' + 1 := ⟨k - 1, by omega⟩
    conv => cbv
    refine Br.mk (fun g => ?_) (fun g => ?_)
    · have g : r = 32 := g
      have hc32 : c = 32 := UInt8.toNat_inj.1 (by show c.toNat = 32; omega)
      conv => cbv
      refine Fit.mk (by show (-9223372036854775808 : Int) ≤ pos + 1; omega) (by show pos + 1 ≤ 9223372036854775807; omega) ?_
      intro q hq
      have hq : q = pos + 1 := hq
      conv => cbv
      refine Again.mk k' _ (Nat.lt_succ_self _) (Re.at [(0, 0)] []) ⟨p', nx, q, rfl, by omega, by omega, by omega, by omega, by omega, by omega, by omega, fun _ _ => by omega, fun h1 h2 => ?_, fun h1 => P3 (by omega) (by omega), by omega⟩
      have h1 : L ≤ p' := h1
      have h2 : p' < T := h2
      by_cases h3 : L ≤ pos
      · exact absurd hc32 (F2 pos c h3 (by omega) hc)
      · omega
    · have g : ¬ r = 32 := g
      have hc32 : ¬ c = 32 := fun h => g (by rw [hr, h]; rfl)
      conv => cbv
      refine Again.mk k' _ (Nat.lt_succ_self _) (Re.at [(0, 0)] []) ⟨p', fr, nx, rfl, by omega, by omega, by omega, by omega, by omega, by omega, by omega, fun _ h2 => ?_, fun h1 h2 => ?_, fun h1 => ?_, by omega⟩
      · have h2 : E[(p' - 1).toNat]? = some 32 := h2
        rw [show (p' - 1).toNat = pos.toNat by omega, hc] at h2
        exact absurd (Option.some.inj h2) hc32
      · have h1 : L ≤ p' := h1
        have h2 : p' < T := h2
        by_cases h3 : L ≤ pos
        · exact P3 h3 (by omega)
        · exfalso
          have h4 := F1 (by omega)
          rw [show (L - 1).toNat = pos.toNat by omega, hc] at h4
          exact hc32 (Option.some.inj h4)
      · exfalso
        have h1 : p' = T := h1
        rw [show (T - 1).toNat = pos.toNat by omega, hc] at F3
        exact hc32 (Option.some.inj F3)
end Go.Proofs.YtllafhhnciobhaaGreatDoor
/-
  Package grey: what its calls do.
-/
namespace Go.Proofs.YtllafhhnciobhaaGreatDoor

open Go Go.LX
set_option maxRecDepth 100000
set_option linter.unusedVariables false

def i64 (a : Int) : Prop := -9223372036854775808 ≤ a ∧ a ≤ 9223372036854775807
theorem enc_len : ∀ (A : List Int), (∀ a ∈ A, i64 a) → (enc A).length ≤ 22 * A.length
  | [], _ => Nat.le_refl _
  | a :: A, h => by
    have h1 := enc_len A fun x hx => h x (List.mem_cons_of_mem _ hx)
    have h2 := h a List.mem_cons_self
    have h3 := Lib.itoa_length_le a h2.1 h2.2
    rw [enc, List.length_append, List.length_cons, List.length_cons]; omega
theorem greyNew_lx : CallF (fun _ => Tryz.prog) 41 [] [] 0 (fun r h n => ∃ z : ByteArray, r = .ptr 0 (.lit 0) ∧ h = [(0, .pure false [.str fun _ => z, .bool false])] ∧ n = 1 ∧ z = ⟨(enc []).toArray⟩) := by
  refine callF_of_body tok Tryz.func41 (by kernel_rfl) rfl rfl rfl ?_; conv => cbv
  obtain ⟨z, hz⟩ : ∃ z : ByteArray, z = ⟨(enc []).toArray⟩ := ⟨_, rfl⟩
  have hz2 : (⟨#[]⟩ : ByteArray) = z := hz.symm
  refine RetF.mk [.ptr 0 (.lit 0)] [(0, .pure false [.str fun _ => z, .bool false])] 1 (Re.at [(0, 0)] []) rfl ⟨z, rfl, rfl, rfl, hz⟩
theorem greyOver_lx (z : ByteArray) (ov : Bool) : CallF (fun _ => Tryz.prog) 102 [.ptr 0 (.lit 0)] [(0, .pure false [.str fun _ => z, .bool ov])] 1 (fun r h n => r = .p (.bool ov) ∧ h = [(0, .pure false [.str fun _ => z, .bool ov])] ∧ n = 1) := by
  refine callF_of_body tok Tryz.func102 (by kernel_rfl) rfl rfl rfl ?_; conv => cbv
  refine RetF.mk [.p (.bool ov)] [(0, .pure false [.str fun _ => z, .bool ov])] 1 (Re.at [(0, 0)] []) rfl ⟨rfl, rfl, rfl⟩
theorem greyOver_nil : CallF (fun _ => Tryz.prog) 102 [.p .nilp] [] 0 (fun r h n => r = .p (.bool false) ∧ h = [] ∧ n = 0) := by
  refine callF_of_body tok Tryz.func102 (by kernel_rfl) rfl rfl rfl ?_; conv => cbv
  refine RetF.mk [.p (.bool false)] [] 0 (Re.at [] []) rfl ⟨rfl, rfl, rfl⟩
theorem greySettle_lx (z : ByteArray) (ov : Bool) : CallF (fun _ => Tryz.prog) 103 [.ptr 0 (.lit 0)] [(0, .pure false [.str fun _ => z, .bool ov])] 1 (fun r h n => r = .tup [] ∧ h = [(0, .pure false [.str fun _ => z, .bool false])] ∧ n = 1) := by
  refine callF_of_body tok Tryz.func103 (by kernel_rfl) rfl rfl rfl ?_; conv => cbv
  refine RetF.mk [] [(0, .pure false [.str fun _ => z, .bool false])] 1 (Re.at [(0, 0)] []) rfl ⟨rfl, rfl, rfl⟩
theorem greySettle_nil : CallF (fun _ => Tryz.prog) 103 [.p .nilp] [] 0 (fun r h n => r = .tup [] ∧ h = [] ∧ n = 0) := by
  refine callF_of_body tok Tryz.func103 (by kernel_rfl) rfl rfl rfl ?_; conv => cbv
  refine RetF.mk [] [] 0 (Re.at [] []) rfl ⟨rfl, rfl, rfl⟩
theorem greyLen_nil : CallF (fun _ => Tryz.prog) 93 [.p .nilp] [] 0 (fun r h n => r = .p (.int .i64 (.sym 0)) ∧ h = [] ∧ n = 0) := by
  refine callF_of_body tok Tryz.func93 (by kernel_rfl) rfl rfl rfl ?_; conv => cbv
  refine RetF.mk [.p (.int .i64 (.sym 0))] [] 0 (Re.at [] []) rfl ⟨rfl, rfl, rfl⟩
set_option maxHeartbeats 2000000 in
theorem greyPush_lx (A : List Int) (a : Int) (z : ByteArray) (ov : Bool) (o : Unit → Obj) (ho : IsPow o) (hz : z = ⟨(enc A).toArray⟩) (hA : ∀ x ∈ A, i64 x) (hA8 : A.length ≤ 8) (ha : i64 a) :
    CallF (fun _ => Tryz.prog) 70 [.ptr 1 (.lit 0), .p (.int .i64 (.sym a))] [(1, .pure false [.str fun _ => z, .bool ov]), (0, .fix 0 o)] 2 (fun r h n => ∃ (b ov' : Bool) (z' : ByteArray) (A' : List Int), r = .p (.bool b) ∧ h = [(1, .pure false [.str fun _ => z', .bool ov']), (0, .fix 0 o)] ∧ n = 2 ∧ z' = ⟨(enc A').toArray⟩ ∧ (A.length < 8 → b = true ∧ A' = A ++ [a] ∧ ov' = ov) ∧ (8 ≤ A.length → b = false ∧ A' = A ∧ ov' = true)) := by
  have hle := enc_len A hA
  refine callF_of_body tok Tryz.func70 (by kernel_rfl) rfl rfl rfl ?_; conv => cbv
  refine callF_frame (greyLen_lx A z ov hz (by omega)) [(0, 1)] rfl (by simp [hmapOk, nget, hget, renB, okB]) rfl rfl (fun r h' n' ⟨m, e1, hm, e2, e3⟩ => ?_)
  subst e1 e2 e3
  conv => cbv
  refine Br.mk (fun g => ?_) (fun g => ?_)
  · have g : 8 ≤ m := g
    conv => cbv
    refine RetF.mk [.p (.bool false)] [(1, .pure false [.str fun _ => z, .bool true]), (0, .fix 0 o)] 2 (Re.at [(0, 0), (1, 1)] []) rfl ⟨false, true, z, A, rfl, rfl, rfl, hz, fun h => by omega, fun _ => ⟨rfl, rfl, rfl⟩⟩
  · have g : ¬ 8 ≤ m := g
    conv => cbv
    refine drawn_sound tok (by kernel_rfl) [(5, [3, 2, 1, 0]), (10, [])] [0, 1, 2, 3, 4, 5, 6, 7, 8, 9, 10] (by kernel_rfl) ?_; conv => cbv
    refine callF_frame (itoa_lx a ha.1 ha.2 o ho) [(0, 0)] rfl (by simp [hmapOk, nget, hget, renB, okB]) rfl rfl (fun r h' n' ⟨⟨y, e1, hy⟩, e2, e3⟩ => ?_)
    subst e1 e2 e3
    have hyl : (y.size : Int) ≤ 21 := by
      rw [hy]
      have := Lib.itoa_length_le a ha.1 ha.2
      show ((Lib.itoa a).toArray.size : Int) ≤ 21
      simp; omega
    have hzl : (z.size : Int) ≤ 1000000 := by rw [hz]; show ((enc A).toArray.size : Int) ≤ _; simp; omega
    conv => cbv
    refine Need.mk (by show y.size + 1 ≤ 9223372036854775807; omega) ?_
    conv => cbv
    refine Str.mk fun u hu => ?_
    have hu : u = y ++ ⟨#[32]⟩ := hu
    have hus : (u.size : Int) ≤ 22 := by rw [hu, ByteArray.size_append]; show ((y.size + 1 : Nat) : Int) ≤ 22; omega
    conv => cbv
    refine Need.mk (by show z.size + u.size ≤ 9223372036854775807; omega) ?_
    conv => cbv
    refine Str.mk fun z2 hz2 => ?_
    have hz2 : z2 = z ++ u := hz2
    have hz3 : z2 = ⟨(enc (A ++ [a])).toArray⟩ := by
      rw [hz2, hz, hu, hy, enc_end]
      apply ByteArray.ext
      simp
    conv => cbv
    refine RetF.mk [.p (.bool true)] [(1, .pure false [.str fun _ => z2, .bool ov]), (0, .fix 0 o)] 2 (Re.at [(0, 0), (1, 1)] []) rfl ⟨true, ov, z2, A ++ [a], rfl, rfl, rfl, hz3, fun _ => ⟨rfl, rfl, rfl⟩, fun h => by omega⟩
set_option maxHeartbeats 2000000 in
theorem greyPop_lx (A : List Int) (z : ByteArray) (ov : Bool) (hz : z = ⟨(enc A).toArray⟩) (hA : ∀ x ∈ A, i64 x) (hA8 : A.length ≤ 8) :
    CallF (fun _ => Tryz.prog) 101 [.ptr 0 (.lit 0)] [(0, .pure false [.str fun _ => z, .bool ov])] 1 (fun r h n => (∃ (v : Int) (b : Bool) (z' : ByteArray) (A' : List Int), r = .tup [.p (.int .i64 (.sym v)), .p (.bool b)] ∧ h = [(0, .pure false [.str fun _ => z', .bool ov])] ∧ n = 1 ∧ z' = ⟨(enc A').toArray⟩ ∧ (A = [] ∧ v = 0 ∧ b = false ∧ A' = [] ∨ A = A' ++ [v] ∧ b = true))) := by
  have hle := enc_len A hA
  refine callF_of_body tok Tryz.func101 (by kernel_rfl) rfl rfl rfl ?_; conv => cbv
  refine callF_frame (greyLen_lx A z ov hz (by omega)) [(0, 0)] rfl (by simp [hmapOk, nget, hget, renB, okB]) rfl rfl (fun r h' n' ⟨m, e1, hm, e2, e3⟩ => ?_)
  subst e1 e2 e3
  conv => cbv
  refine Br.mk (fun g => ?_) (fun g => ?_)
  · have g : m = 0 := g
    have hA0 : A = [] := List.eq_nil_of_length_eq_zero (by omega)
    conv => cbv
    refine RetF.mk [.p (.int .i64 (.sym 0)), .p (.bool false)] [(0, .pure false [.str fun _ => z, .bool ov])] 1 (Re.at [(0, 0)] []) rfl ⟨0, false, z, A, rfl, rfl, rfl, hz, .inl ⟨hA0, rfl, rfl, hA0⟩⟩
  · have g : ¬ m = 0 := g
    obtain ⟨B, a, rfl⟩ : ∃ B a, A = B ++ [a] := ⟨_, _, (List.dropLast_concat_getLast (by rintro rfl; simp at hm; omega)).symm⟩
    conv => cbv
    refine callF_val (partLast_lx B a z hz (by rw [List.length_append] at *; omega)) (by simp [ales, ale, renVs, renV, pvle_refl]) rfl (fun r ⟨x, y, hr, _⟩ => by subst hr; rfl) (fun r ⟨x, y, hr, hx, hy⟩ => ?_)
    subst hr
    have haa := hA a (by simp)
    conv => cbv
    refine callF_val (atoi_lx y a (by rw [hy]; have := Lib.itoa_length_le a haa.1 haa.2; show (Lib.itoa a).toArray.size ≤ _; simp; omega) (by rw [hy]; exact atoi_itoa a haa.1 haa.2)) (by simp [ales, ale, renVs, renV, pvle_refl]) rfl (fun r hr => by subst hr; rfl) (fun r hr => ?_)
    subst hr
    conv => cbv
    refine RetF.mk [.p (.int .i64 (.sym a)), .p (.bool true)] [(0, .pure false [.str fun _ => x, .bool ov])] 1 (Re.at [(0, 0)] []) rfl ⟨a, true, x, B, rfl, rfl, rfl, hx, .inr ⟨rfl, rfl⟩⟩
theorem greyPop_nil : CallF (fun _ => Tryz.prog) 101 [.p .nilp] [] 0 (fun r h n => r = .tup [.p (.int .i64 (.sym 0)), .p (.bool false)] ∧ h = [] ∧ n = 0) := by
  refine callF_of_body tok Tryz.func101 (by kernel_rfl) rfl rfl rfl ?_; conv => cbv
  refine callF_val greyLen_nil (by simp [ales, ale, renVs, renV, pvle]) rfl (fun r hr => by subst hr; rfl) (fun r hr => ?_)
  subst hr
  conv => cbv
  refine Br.mk (fun g => ?_) (fun g => ?_)
  case refine_2 =>
    have g : ¬ ((0 : Int) = 0) := g
    exfalso
    exact g rfl
  conv => cbv
  refine RetF.mk [.p (.int .i64 (.sym 0)), .p (.bool false)] [] 0 (Re.at [] []) rfl ⟨rfl, rfl, rfl⟩
theorem greyPush_nil (a : I) : CallF (fun _ => Tryz.prog) 70 [.p .nilp, .p (.int .i64 a)] [] 0 (fun r h n => r = .p (.bool false) ∧ h = [] ∧ n = 0) := by
  refine callF_of_body tok Tryz.func70 (by kernel_rfl) rfl rfl rfl ?_; conv => cbv
  refine RetF.mk [.p (.bool false)] [] 0 (Re.at [] []) rfl ⟨rfl, rfl, rfl⟩
end Go.Proofs.YtllafhhnciobhaaGreatDoor
