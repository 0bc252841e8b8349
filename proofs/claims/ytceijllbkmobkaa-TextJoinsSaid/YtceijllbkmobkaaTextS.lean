/-
  Plain mathematics of three texts: one sign behind an 'a'; so many 'a'; so many lines of an 'x'.
-/
import Derived.Test.YtceijllbkmobkaaTextM
namespace Go.Proofs.Ytceijllbkmobkaa

theorem runes_ascii (s : ByteArray) (hA : ∀ i (h : i < s.size), (s[i]'h).toNat < 128) (f : Nat) : ∀ pos, s.size ≤ pos + f → runesFrom s f pos = (s.data.toList.drop pos).map UInt8.toNat := by
  induction f with
  | zero =>
    intro pos h
    have h2 : s.data.toList.length ≤ pos := by simpa using h
    rw [List.drop_eq_nil_of_le h2]; rfl
  | succ f ih =>
    intro pos h
    by_cases hp : pos < s.size
    · rw [runesFrom_next s f pos hp, decode_ascii s pos hp (hA pos hp)]
      have hp2 : pos < s.data.toList.length := by simpa using hp
      rw [List.drop_eq_getElem_cons hp2, List.map_cons, ih (pos + 1) (by omega)]
      rfl
    · rw [runesFrom_end s _ pos hp]
      have h2 : s.data.toList.length ≤ pos := by simpa using hp
      rw [List.drop_eq_nil_of_le h2]; rfl

def bytesOfL (l : List UInt8) : ByteArray := ⟨l.toArray⟩
theorem runesOf_ascii (l : List UInt8) (hA : ∀ c ∈ l, c.toNat < 128) : runesOf (bytesOfL l) = l.map UInt8.toNat := by
  unfold runesOf
  rw [runes_ascii (bytesOfL l) (fun i h => hA _ ?_) _ 0 (by omega)]
  · simp [bytesOfL]
  · have h2 : i < l.length := by simpa [bytesOfL, ByteArray.size] using h
    have e : (bytesOfL l)[i]'h = l[i]'h2 := by simp [bytesOfL, ByteArray.getElem_eq_getElem_data]
    rw [e]
    exact List.getElem_mem h2

theorem enc_high (c : Int) (h : 128 ≤ c) : ∃ b r, (Utf8.encode c).data.toList = b :: r ∧ 128 ≤ b.toNat ∧ r.length ≤ 3 := by
  have key : ∀ n : Nat, 128 ≤ n → n ≤ 1114111 → ∃ b r, (if n < 0x80 then (⟨#[UInt8.ofNat n]⟩ : ByteArray) else if n < 0x800 then ⟨#[UInt8.ofNat (0xC0 + n / 64), UInt8.ofNat (0x80 + n % 64)]⟩
      else if n < 0x10000 then ⟨#[UInt8.ofNat (0xE0 + n / 4096), UInt8.ofNat (0x80 + n / 64 % 64), UInt8.ofNat (0x80 + n % 64)]⟩
      else ⟨#[UInt8.ofNat (0xF0 + n / 262144), UInt8.ofNat (0x80 + n / 4096 % 64), UInt8.ofNat (0x80 + n / 64 % 64), UInt8.ofNat (0x80 + n % 64)]⟩).data.toList = b :: r ∧ 128 ≤ b.toNat ∧ r.length ≤ 3 := by
    intro n h1 h2
    rw [if_neg (by omega)]
    by_cases h3 : n < 0x800
    · rw [if_pos h3]
      exact ⟨_, _, rfl, by rw [UInt8.toNat_ofNat']; omega, by simp⟩
    rw [if_neg h3]
    by_cases h4 : n < 0x10000
    · rw [if_pos h4]
      exact ⟨_, _, rfl, by rw [UInt8.toNat_ofNat']; omega, by simp⟩
    · rw [if_neg h4]
      exact ⟨_, _, rfl, by rw [UInt8.toNat_ofNat']; omega, by simp⟩
  unfold Utf8.encode
  by_cases hv : Utf8.valid c = true
  · simp only [hv, if_true]
    have hv2 : c ≤ 1114111 := by simp [Utf8.valid] at hv; omega
    exact key _ (by omega) (by omega)
  · simp only [hv]
    exact key Utf8.runeError (by decide) (by decide)

def mayB (c : Int) : Bool := decide (c = 10 ∨ (32 ≤ c ∧ c ≤ 126))
theorem sign_low : ∀ c : Fin 128, (linesV (bytesOfL (97 :: (Utf8.encode (c.val : Int)).data.toList))).2 = if mayB (c.val : Int) then 0 else 4 := by decide +kernel
theorem sign_any (c : Int) (h : 0 ≤ c) : (linesV (bytesOfL (97 :: (Utf8.encode c).data.toList))).2 = if mayB c then 0 else 4 := by
  by_cases hc : c < 128
  · have := sign_low ⟨c.toNat, by omega⟩
    simp only at this
    rwa [Int.toNat_of_nonneg h] at this
  · obtain ⟨b, r, e, hb, hr⟩ := enc_high c (by omega)
    have hm : mayB c = false := by simp [mayB]; omega
    rw [hm, e]
    have hsz : (bytesOfL (97 :: b :: r)).size = r.length + 2 := by simp [bytesOfL, ByteArray.size]
    have hl := runesFrom_length (bytesOfL (97 :: b :: r)) (bytesOfL (97 :: b :: r)).size 0
    have hw : 0 < wrongs (runesOf (bytesOfL (97 :: b :: r))) := by
      have e0 : (bytesOfL (97 :: b :: r))[0]'(by omega) = 97 := by simp [bytesOfL, ByteArray.getElem_eq_getElem_data]
      have e1 : (bytesOfL (97 :: b :: r))[1]'(by omega) = b := by simp [bytesOfL, ByteArray.getElem_eq_getElem_data]
      have d0 : Utf8.decode (bytesOfL (97 :: b :: r)) 0 = (97, 1) := by rw [decode_ascii _ 0 (by omega) (by rw [e0]; decide), e0]; rfl
      have d1 := (decode_high (bytesOfL (97 :: b :: r)) 1 (by omega) (by rw [e1]; exact hb)).1
      unfold runesOf
      rw [hsz, runesFrom_next _ _ 0 (by omega), d0, runesFrom_next _ _ _ (by show 0 + 1 < _; omega)]
      have hbad : badR (Utf8.decode (bytesOfL (97 :: b :: r)) (0 + 1)).1 = true := by simp [badR]; omega
      simp [wrongs, hbad]
    rw [linesV, if_neg (by unfold runesOf; omega), if_pos hw]
    rfl

theorem parts_as (n : Nat) : partsOf (List.replicate n 97) = ([], List.replicate n 97) := by
  induction n with
  | zero => rfl
  | succ n ih => rw [List.replicate_succ', parts_snoc, ih]; rfl
theorem long_any (n : Nat) (h : 0 < n) : (linesV (bytesOfL (List.replicate n 97))).2 = if n ≤ 2000 then 0 else 3 := by
  have hr : runesOf (bytesOfL (List.replicate n 97)) = List.replicate n 97 := by
    rw [runesOf_ascii _ (by intro c hc; rw [List.eq_of_mem_replicate hc]; decide), List.map_replicate]; rfl
  have hw : wrongs (List.replicate n 97) = 0 := by
    rw [wrongs, List.countP_eq_zero]
    intro c hc
    rw [List.eq_of_mem_replicate hc]; decide
  have hd : (bytesOfL (List.replicate n 97)).data.toList = List.replicate n 97 := by simp [bytesOfL]
  have hcl : closed (partsOf (List.replicate n 97)) = [List.replicate n 97] := by
    rw [parts_as, closed, if_neg (by cases n with | zero => omega | succ n => simp [List.replicate_succ])]; rfl
  rw [linesV, hr, hw, hd, hcl, List.length_replicate]
  by_cases h2 : n ≤ 2000
  · rw [if_neg (by omega), if_neg (by omega), if_neg (by simp), if_neg (by simp), if_pos h2]
  · rw [if_pos (by omega), if_neg h2]

/-- So many lines of an 'x'. -/
def xs : Nat → List UInt8
  | 0 => []
  | n + 1 => xs n ++ [120, 10]
theorem xs_length (n : Nat) : (xs n).length = 2 * n := by
  induction n with
  | zero => rfl
  | succ n ih => rw [xs, List.length_append, ih]; simp; omega
theorem xs_mem (n : Nat) : ∀ c ∈ xs n, c = 120 ∨ c = 10 := by
  induction n with
  | zero => intro c hc; exact absurd hc (by simp [xs])
  | succ n ih =>
    intro c hc
    rw [xs, List.mem_append] at hc
    rcases hc with hc | hc
    · exact ih c hc
    · simpa using hc
theorem parts_xs (n : Nat) : partsOf (xs n) = (List.replicate n [120], []) := by
  induction n with
  | zero => rfl
  | succ n ih =>
    rw [xs, show xs n ++ [120, 10] = (xs n ++ [120]) ++ [10] by simp, parts_snoc, parts_snoc, ih, List.replicate_succ']
    rfl
theorem many_any (n : Nat) (h : 0 < n) (h2 : n ≤ 1000) : (linesV (bytesOfL (xs n))).2 = if n ≤ 60 then 0 else 3 := by
  have hr : runesOf (bytesOfL (xs n)) = (xs n).map UInt8.toNat := runesOf_ascii _ (by
    intro c hc
    rcases xs_mem n c hc with rfl | rfl <;> decide)
  have hw : wrongs ((xs n).map UInt8.toNat) = 0 := by
    rw [wrongs, List.countP_eq_zero]
    intro c hc
    obtain ⟨d, hd, rfl⟩ := List.mem_map.1 hc
    rcases xs_mem n d hd with rfl | rfl <;> decide
  have hd : (bytesOfL (xs n)).data.toList = xs n := by simp [bytesOfL]
  have hcl : closed (partsOf (xs n)) = List.replicate n [120] := by rw [parts_xs]; rfl
  rw [linesV, hr, hw, hd, hcl, List.length_replicate, List.length_map, xs_length]
  rw [if_neg (by omega), if_neg (by omega), if_neg (by omega)]
  by_cases h3 : n ≤ 60
  · rw [if_neg (by omega), if_pos h3]
  · rw [if_pos (by omega), if_neg h3]
end Go.Proofs.Ytceijllbkmobkaa
