/-
  A table of types held against the program by the kernel.
-/
import Derived.Test.YtlakoemonbadiaaLxRe
namespace Go.LX
open Go
set_option linter.unusedVariables false

def veq : Value → PV → Bool
  | .int k n, .int k' e => (k == k') && (n == e.val)
  | .bool b, .bool b' => b == b'
  | .string s, .str s' => s.data.toList.isEmpty && (s' ()).data.toList.isEmpty
  | .pointer none, .nilp => true
  | .slice none 0 0, .nils => true
  | .nilIface, .nilif => true
  | .nilFunc, .nilfn => true
  | _, _ => false
def veqs : List Value → List PV → Bool
  | [], [] => true
  | x :: l, y :: m => veq x y && veqs l m
  | _, _ => false
def keq (P : Program) : TK → TypeDesc → Bool
  | .int k, .int k' => k == k'
  | .bool, .bool => true
  | .str, .string => true
  | .ptr e, .pointer e' => e == e'
  | .slice e, .slice e' => e == e'
  | .struct fs, .struct fs' => (fs == fs'.toList.map fun f => (f.offset, f.type)) && (fs'.toList.mapM fun f => (P.info? f.type).map fun i => (f.offset, i.size)).isSome
  | .arr n e, .array n' e' => (n == n') && (e == e') && (P.info? e).isSome
  | .iface, .interface _ => true
  | .func, .func _ _ _ => true
  | _, _ => false
def shape : TK → Value → Bool
  | k, .agg _ => k.agg
  | k, .tuple _ => false
  | k, _ => !k.agg
def teq (P : Program) (t : Nat) (ti : TI) : Bool :=
  match P.info? t, P.underlying t with
  | some i, some d => (i.size == ti.size) && (i.bytes == ti.bytes) && (match i.zero with
    | some z => veqs z.cells.toList ti.zero && shape ti.kind z
    | none => false) && keq P ti.kind d
  | _, _ => false
def teqs (P : Program) : TT → Bool
  | [] => true
  | (t, ti) :: l => teq P t ti && teqs P l
theorem veq_ok {x : Value} {y : PV} (h : veq x y = true) : x = y.toV ∧ zok y = true := by
  unfold veq at h
  split at h
  · rename_i k n k' e
    simp only [Bool.and_eq_true, beq_iff_eq] at h
    obtain ⟨rfl, rfl⟩ := h
    exact ⟨rfl, rfl⟩
  · have h := beq_iff_eq.1 h; subst h; exact ⟨rfl, rfl⟩
  · rename_i s s'
    simp only [Bool.and_eq_true, List.isEmpty_iff] at h
    have : s = s' () := by
      apply Go.WideShapes.bytes_inj
      rw [h.1, h.2]
    subst this; exact ⟨rfl, rfl⟩
  · exact ⟨rfl, rfl⟩
  · exact ⟨rfl, rfl⟩
  · exact ⟨rfl, rfl⟩
  · exact ⟨rfl, rfl⟩
  · cases h
theorem veqs_ok : ∀ {l : List Value} {m : List PV}, veqs l m = true → l = m.map PV.toV ∧ m.all zok = true
  | [], [], _ => ⟨rfl, rfl⟩
  | x :: l, y :: m, h => by
    simp only [veqs, Bool.and_eq_true] at h
    obtain ⟨h1, h2⟩ := veq_ok h.1
    obtain ⟨h3, h4⟩ := veqs_ok h.2
    exact ⟨by rw [List.map_cons, ← h1, ← h3], by simp only [List.all_cons, h2, h4, Bool.and_self]⟩
  | [], _ :: _, h => by cases h
  | _ :: _, [], h => by cases h
theorem keq_ok {P : Program} {k : TK} {d : TypeDesc} (h : keq P k d = true) : kindOk P k d := by
  unfold keq at h
  split at h
  · exact beq_iff_eq.1 h
  · trivial
  · trivial
  · exact beq_iff_eq.1 h
  · exact beq_iff_eq.1 h
  · simp only [Bool.and_eq_true, beq_iff_eq] at h; exact h
  · simp only [Bool.and_eq_true, beq_iff_eq] at h; exact ⟨h.1.1, h.1.2, h.2⟩
  · trivial
  · trivial
  · cases h
theorem teq_ok {P : Program} {t : Nat} {ti : TI} (h : teq P t ti = true) : TIok P t ti := by
  unfold teq at h
  split at h
  · rename_i i d hi hd
    simp only [Bool.and_eq_true, beq_iff_eq] at h
    obtain ⟨⟨⟨h1, h2⟩, h3⟩, h4⟩ := h
    split at h3
    · rename_i z hz
      simp only [Bool.and_eq_true] at h3
      obtain ⟨h5, h6⟩ := veqs_ok h3.1
      refine ⟨⟨i, z, d, hi, h1, h2, hz, h5, hd, keq_ok h4, fun hk => ?_, fun hk => ?_⟩, h6⟩
      · have := h3.2
        cases z <;> simp [shape, hk] at this
        rfl
      · have := h3.2
        cases z <;> simp [shape, hk] at this <;> rfl
    · cases h3
  · cases h
theorem teqs_ok {P : Program} : ∀ {T : TT}, teqs P T = true → TOK P T
  | [], _ => tok_nil P
  | (t, ti) :: l, h => by
    simp only [teqs, Bool.and_eq_true] at h
    exact tok_cons (teq_ok h.1) (teqs_ok h.2)
end Go.LX
