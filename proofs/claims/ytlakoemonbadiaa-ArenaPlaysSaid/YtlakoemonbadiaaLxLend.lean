/-
  A known list is lent to a call that wants a list of which it is only known what it holds: it is known behind the call as before.
-/
import Derived.Test.YtlakoemonbadiaaLxUse
namespace Go.LX
open Go
set_option linter.unusedVariables false

theorem pvles_refl : ∀ l : List PV, pvles l l
  | [] => trivial
  | u :: l => ⟨pvle_refl u, pvles_refl l⟩
theorem pvles_app : ∀ {a a' b b' : List PV}, pvles a a' → pvles b b' → pvles (a ++ b) (a' ++ b')
  | [], [], b, b', _, h => h
  | x :: a, y :: a', b, b', h, k => ⟨h.1, pvles_app h.2 k⟩
  | [], _ :: _, _, _, h, _ => by simp [pvles] at h
  | _ :: _, [], _, _, h, _ => by simp [pvles] at h
/-- No word of a block that may turn, or not. -/
def flatP : PV → Prop
  | .vsl _ _ _ => False
  | .vp _ _ _ => False
  | _ => True
mutual
def flatV : LV → Prop
  | .p v => flatP v
  | .agg l => flatVs l
  | .tup l => flatVs l
  | .iface _ v => flatV v
  | .fn _ l => flatVs l
  | _ => True
def flatVs : List LV → Prop
  | [] => True
  | x :: l => flatV x ∧ flatVs l
end
def flatB : LB → Prop
  | .pure _ l => ∀ u ∈ l, flatP u
  | .mix l => flatVs l
  | .iter _ _ => True
  | .fix _ _ => False
  | .bld _ l => flatVs l
def flatH : LH → Prop
  | [] => True
  | (_, B) :: l => flatB B ∧ flatH l
def lendV (h : LH) : LV → LV → Prop
  | .sl b _ _ o k, .p (.vsl k' _ l) => k.val = k'.val ∧ ∃ sy L, hget h b = some (.pure sy L) ∧ (l <+: L.drop o.val.toNat ∨ ∃ l0, l0 <+: L.drop o.val.toNat ∧ pvles l0 l)
  | .p u, .p u' => pvle u u'
  | _, _ => False
def lends (h : LH) : List LV → List LV → Prop
  | [], [] => True
  | x :: l, y :: m => lendV h x y ∧ lends h l m
  | _, _ => False
def lent (h : LH) : List LV → List Nat
  | .sl b _ _ _ _ :: l => b :: lent h l
  | _ :: l => lent h l
  | [] => []

section
variable {c c0 : Ctx} {w w' : World} {n : Nat} {h : LH}
theorem PR.anti {M M' : Nat → Prop} (hM : ∀ r, M' r → M r) {u : PV} {x : Value} (hp : PR M w u x) : PR M' w u x := by
  induction hp with
  | int k e n hn => exact .int k e n hn
  | bool b => exact .bool b
  | str s => exact .str s
  | nilp => exact .nilp
  | nils => exact .nils
  | nilif => exact .nilif
  | nilfn => exact .nilfn
  | fn f => exact .fn f
  | vsl0 n sy l a c h hc => exact .vsl0 n sy l a c h hc
  | vsl n sy l a k c f h hs hm hlt hk hc hcell hrel ih => exact .vsl n sy l a k c f h hs (fun hx => hm (hM _ hx)) hlt hk hc hcell ih
  | vp sy l o a k f h hs hm hlt hcell hrel ih => exact .vp sy l o a k f h hs (fun hx => hm (hM _ hx)) hlt hcell ih
  | undef x hx => exact .undef x hx
theorem PR.flat {M M' : Nat → Prop} {u : PV} {x : Value} (hp : PR M w u x) (hf : flatP u) : PR M' w u x := by
  cases hp with
  | int k e n hn => exact .int k e n hn
  | bool b => exact .bool b
  | str s => exact .str s
  | nilp => exact .nilp
  | nils => exact .nils
  | nilif => exact .nilif
  | nilfn => exact .nilfn
  | fn f => exact .fn f
  | vsl0 n sy l a c h hc => exact hf.elim
  | vsl n sy l a k c f h hs hm hlt hk hc hcell hrel => exact hf.elim
  | vp sy l o a k f h hs hm hlt hcell hrel => exact hf.elim
  | undef x hx => exact .undef x hx
theorem flatVs_mem : ∀ {l : List LV}, flatVs l → ∀ u ∈ l, flatV u
  | [], _, u, hu => by cases hu
  | x :: l, h, u, hu => by
    rw [flatVs] at h
    rcases List.mem_cons.1 hu with rfl | hu
    · exact h.1
    · exact flatVs_mem h.2 u hu
theorem flatH_get : ∀ {l : LH}, flatH l → ∀ b B, hget l b = some B → flatB B
  | [], _, b, B, hb => by cases hb
  | (a, A) :: l, h, b, B, hb => by
    rw [hget_cons] at hb
    by_cases e : a = b
    · rw [if_pos e] at hb; cases hb; exact h.1
    · rw [if_neg e] at hb; exact flatH_get h.2 b B hb

/-- The world of a call that is lent what it is handed. -/
def Ctx.lend (c : Ctx) (L : List Nat) : Ctx := { m := fun _ => none, X := fun r => c.mut r ∧ ∀ b ∈ L, c.m b ≠ some (some r), N := 0 }
theorem lend_own (L : List Nat) (r : Nat) : ¬ (c.lend L).own r := by rintro ⟨b, hb⟩; cases hb
theorem lend_mut (L : List Nat) (r : Nat) : (c.lend L).mut r → c.mut r := by
  rintro (h | h)
  · exact h.1
  · exact (lend_own L r h).elim
theorem fok0 : FOK 0 n [] := fok_ok rfl
theorem LR.outofL {ρ : List (Nat × Nat)} {n0 : Nat} (hF : FOK n0 n ρ) {u : LV} {x : Value} (hu : LR c0 w' u x) : flatV u → LR (c.outer c0 ρ n0 n) w' (renV ρ n0 n u) x := by
  have lists : ∀ {l : List LV} {xs : Array Value}, flatVs l → l.length = xs.size → (∀ (j : Nat) (u : LV), l[j]? = some u → flatV u → LR (c.outer c0 ρ n0 n) w' (renV ρ n0 n u) (xs.getD j Go.undef)) → (renVs ρ n0 n l).length = xs.size ∧ ∀ (j : Nat) (u : LV), (renVs ρ n0 n l)[j]? = some u → LR (c.outer c0 ρ n0 n) w' u (xs.getD j Go.undef) := by
    intro l xs h0 h1 h2
    refine ⟨by rw [renVs_length]; exact h1, fun j u hu => ?_⟩
    rw [renVs_get] at hu
    cases e : l[j]? with
    | none => rw [e] at hu; cases hu
    | some v => rw [e] at hu; cases hu; exact h2 j v e (flatVs_mem h0 v (List.mem_of_getElem? e))
  induction hu with
  | p v x hv => intro hf; exact .p _ _ (hv.flat hf)
  | ptr b o r k hm ho =>
    intro _
    rw [renV]
    cases e : rn ρ n0 n b with
    | none => exact .undef _
    | some b' => exact .ptr _ _ r k ((outer_rn hF e).trans hm) ho
  | goneP b o a hm hb =>
    intro _
    rw [renV]
    cases e : rn ρ n0 n b with
    | none => exact .undef _
    | some b' => exact .goneP _ _ a ((outer_rn hF e).trans hm) (rn_lt hF e hb)
  | sl b e sz o n' r j k cp tot hm ho hn hk hc hs ht =>
    intro _
    rw [renV]
    cases e : rn ρ n0 _ b with
    | none => exact .undef _
    | some b' => exact .sl _ _ _ _ _ r j k cp tot ((outer_rn hF e).trans hm) ho hn hk hc hs ht
  | slv b e sz o n' hm ho hn =>
    intro _
    rw [renV]
    cases e : rn ρ n0 _ b with
    | none => exact .undef _
    | some b' => exact .slv _ _ _ _ _ ((outer_rn hF e).trans hm) ho hn
  | goneS b e sz o n' a k cp hm hb =>
    intro _
    rw [renV]
    cases e : rn ρ n0 _ b with
    | none => exact .undef _
    | some b' => exact .goneS _ _ _ _ _ a k cp ((outer_rn hF e).trans hm) (rn_lt hF e hb)
  | agg l x hl hrel ih => intro hf; rw [flatV] at hf; rw [renV]; obtain ⟨h1, h2⟩ := lists hf hl ih; exact .agg _ _ h1 h2
  | tup l x hl hrel ih => intro hf; rw [flatV] at hf; rw [renV]; obtain ⟨h1, h2⟩ := lists hf hl ih; exact .tup _ _ h1 h2
  | iface t v x hv ih => intro hf; rw [flatV] at hf; rw [renV]; exact .iface _ _ _ (ih hf)
  | fn f l x hl hrel ih => intro hf; rw [flatV] at hf; rw [renV]; obtain ⟨h1, h2⟩ := lists hf hl ih; exact .fn _ _ _ h1 h2
  | nul => intro _; rw [renV]; exact .nul
  | undef x => intro _; rw [renV]; exact .undef _
theorem BR.outofL {ρ : List (Nat × Nat)} {n0 : Nat} (hF : FOK n0 n ρ) {B : LB} {m : Option Nat} (hB : BR c0 w' B m) (hf : flatB B) : BR (c.outer c0 ρ n0 n) w' (renB ρ n0 n B) m := by
  cases B with
  | pure sy l =>
    cases m with
    | none => exact hB
    | some r =>
      obtain ⟨cur, ty, h1, h2, h3⟩ := hB
      exact ⟨cur, ty, h1, h2, fun j u hu => (h3 j u hu).flat (hf u (List.mem_of_getElem? hu))⟩
  | mix l =>
    cases m with
    | none => have : l = [] := hB; subst this; rfl
    | some r =>
      obtain ⟨cur, ty, h1, h2, h3⟩ := hB
      refine ⟨cur, ty, h1, by rw [renVs_length]; exact h2, fun j u hu => ?_⟩
      rw [renVs_get] at hu
      cases e : l[j]? with
      | none => rw [e] at hu; cases hu
      | some v => rw [e] at hu; cases hu; exact (h3 j v e).outofL hF (flatVs_mem hf v (List.mem_of_getElem? e))
  | iter s p => cases m <;> exact hB
  | fix g o => exact hf.elim
  | bld t l =>
    cases m with
    | none => exact hB
    | some r =>
      obtain ⟨cur, h1, h2, h0, h3⟩ := hB
      refine ⟨cur, h1, by rw [renVs_length]; exact h2, h0, fun j u hu => ?_⟩
      rw [renVs_get] at hu
      cases e : l[j]? with
      | none => rw [e] at hu; cases hu
      | some v => rw [e] at hu; cases hu; exact (h3 j v e).outofL hF (flatVs_mem hf v (List.mem_of_getElem? e))
theorem lends_get : ∀ {l m : List LV}, lends h l m → l.length = m.length ∧ ∀ (j : Nat) (u' : LV), m[j]? = some u' → ∃ u, l[j]? = some u ∧ lendV h u u' ∧ ∀ b ∈ lent h [u], b ∈ lent h l
  | [], [], _ => ⟨rfl, fun j u' h => by simp at h⟩
  | x :: l, y :: m, hh => by
    rw [lends] at hh
    obtain ⟨h1, h2⟩ := lends_get hh.2
    refine ⟨by simp [h1], fun j u' hj => ?_⟩
    cases j with
    | zero =>
      simp at hj; subst hj
      refine ⟨x, rfl, hh.1, fun b hb => ?_⟩
      cases x <;> simp [lent] at hb ⊢
      exact .inl hb
    | succ j =>
      simp at hj
      obtain ⟨u, h3, h4, h5⟩ := h2 j u' hj
      refine ⟨u, by simpa using h3, h4, fun b hb => ?_⟩
      have := h5 b hb
      cases x <;> simp [lent] at this ⊢ <;> first | exact this | exact .inr this
  | [], _ :: _, hh => by simp [lends] at hh
  | _ :: _, [], hh => by simp [lends] at hh
theorem pre_get {l L : List PV} (h : l <+: L) {j : Nat} {u : PV} (hj : l[j]? = some u) : L[j]? = some u := by
  obtain ⟨t, rfl⟩ := h
  rw [List.getElem?_append_left (List.getElem?_eq_some_iff.1 hj).1]; exact hj
theorem PR.vles {M : Nat → Prop} {k k' : I} {sy sy' : Bool} {l l' : List PV} {x : Value} (h : PR M w (.vsl k sy l) x) (hk : k.val = k'.val) (hle : pvles l l') : PR M w (.vsl k' sy' l') x := by
  cases h with
  | vsl0 _ _ _ a c h0 hc => exact .vsl0 _ _ _ _ _ (hk ▸ h0) hc
  | vsl _ _ _ a n c f h0 hs hM hlt hkc hc hcell hrel =>
    obtain ⟨_, h2⟩ := pvles_get hle
    refine .vsl _ _ _ a n c f (hk ▸ h0) hs hM hlt hkc hc (fun j u hu => ?_) (fun j u hu => ?_)
    · obtain ⟨v, h3, h4⟩ := h2 j u hu
      exact hcell j v h3
    · obtain ⟨v, h3, h4⟩ := h2 j u hu
      exact (hrel j v h3).le h4
theorem LR.lendS (hr : HR c w h) (L : List Nat) {b e sz : Nat} {o k : I} {sy sy0 : Bool} {l L' : List PV} {x : Value} (hu : LR c w (.sl b e sz o k) x) (hb : hget h b = some (.pure sy L')) (hpre : l <+: L'.drop o.val.toNat) (hL : b ∈ L) : LR (c.lend L) w (.p (.vsl k sy0 l)) x := by
  obtain ⟨m, hm, hB⟩ := hr.live b _ hb
  refine .p _ _ ?_
  cases hu with
  | sl _ _ _ _ _ r j k2 cp tot hm2 ho hn hk hc hs ht =>
    rw [hm] at hm2; cases hm2
    have hj : o.val.toNat = j := by omega
    rw [hj] at hpre
    obtain ⟨cur, ty, g1, g2, g3⟩ := hB
    have get : ∀ (i : Nat) (u : PV), l[i]? = some u → L'[j + i]? = some u := fun i u hi => by
      have := pre_get hpre hi
      rwa [List.getElem?_drop] at this
    refine .vsl _ _ _ ⟨r, j, none⟩ k2 cp (fun i => cur.getD (j + i) Go.undef) hn rfl ?_ (hr.lt b r hm) hk hc (fun i u hi => ?_) (fun i u hi => (g3 _ u (get i u hi)).anti (lend_mut L))
    · rintro (h1 | h1)
      · exact h1.2 b hL hm
      · exact lend_own L _ h1
    · have hlt := (List.getElem?_eq_some_iff.1 (get i u hi)).1
      rw [add_lit]
      simp only [World.cell?, g1]
      rw [Array.getD_eq_getD_getElem?, Array.getElem?_eq_getElem (by omega : j + i < cur.size)]; rfl
  | slv _ _ _ _ _ hm2 ho hn => exact .vsl0 _ _ _ none 0 hn (Nat.zero_le _)
  | goneS _ _ _ _ _ a k2 cp hm2 hb2 => rw [hm] at hm2; cases hm2
theorem LR.lendL (hr : HR c w h) (L : List Nat) {u u' : LV} {x : Value} (hu : LR c w u x) (hl : lendV h u u') (hL : ∀ b ∈ lent h [u], b ∈ L) : LR (c.lend L) w u' x := by
  unfold lendV at hl
  split at hl
  · rename_i b e sz o k k' sy0 l
    obtain ⟨hk, sy, L', hb, hpre⟩ := hl
    have hb0 : b ∈ L := hL b (by simp [lent])
    rcases hpre with hpre | ⟨l0, hpre, hle⟩
    · exact (hu.lendS hr L hb hpre hb0 (sy0 := sy0)).ale ⟨hk, rfl⟩
    · have h1 := hu.lendS hr L hb hpre hb0 (sy0 := sy0)
      cases h1 with
      | p _ _ hp => exact .p _ _ (hp.vles hk hle)
  · cases hu with
    | p v x hv => exact .p _ _ ((hv.anti (lend_mut L)).le hl)
  · exact hl.elim

/-- THE LOAN. -/
theorem callF_lend {P : Unit → Program} {f : Nat} {args0 args : List LV} {K0 K : LV → LH → Nat → Prop} (hc : CallF P f args0 [] 0 K0) (hle : lends h args args0) (hfl : ∀ r h' n', K0 r h' n' → flatV r ∧ flatH h')
    (hK : ∀ r h' n', K0 r h' n' → K (renV [] 0 n r) (frameH [] 0 n h h') (n + n')) : CallF P f args h n K := by
  cases hc with
  | mk h1 h2 =>
    refine .mk h1 fun c w xs hr hN hl hrel => ?_
    obtain ⟨g1, g2⟩ := lends_get hle
    have hri : HR (c.lend (lent h args)) w [] := by
      refine ⟨fun a A ha => (by cases ha), fun _ _ => rfl, fun a a' r e1 e2 => (by cases e1), fun a r e1 => (by cases e1), fun r hx => ?_, fun a r e1 => (by cases e1)⟩
      rcases hx.1 with hx | ⟨b, hb⟩
      · exact hr.ltX r hx
      · exact hr.lt b r hb
    refine (h2 (c.lend (lent h args)) w xs hri rfl (g1.symm.trans hl) fun i u hu => ?_).mono fun e w' hh => ?_
    · obtain ⟨v, k1, k2, k3⟩ := g2 i u hu
      exact (hrel i v k1).lendL hr _ k2 k3
    obtain ⟨c0, r, v, h0', n0', rfl, hKr, hr0, hn0', hv, he⟩ := hh
    obtain ⟨f1, f2⟩ := hfl _ _ _ hKr
    have old : ∀ r, r < w.heap.size → w'.heap[r]? = w.heap[r]? := fun r hlt => he.same r hlt (lend_own _ r)
    have newr : ∀ a r, c0.m a = some (some r) → w.heap.size ≤ r := fun a r h => by
      rcases he.new a r (Nat.zero_le _) h with g | g
      · exact g
      · exact (lend_own _ r g).elim
    have hF : FOK 0 n [] := fok0
    have hext : Ext c w (c.outer c0 [] 0 n) w' := by
      refine ⟨he.os, he.tape, he.output, he.size, rfl, by show c.N ≤ n + (c0.N - 0); omega, fun b hb => .inl (outer_old hF rfl (by omega)), fun b r hb hbm => ?_, fun r hlt _ => old r hlt, fun b r hb hbm => ?_⟩
      · rcases outer_cases (c := c) (c0 := c0) hF b with ⟨a, k1, k2⟩ | ⟨k1, k2, k3⟩
        · rw [k2] at hbm; exact .inl (newr a r hbm)
        · omega
      · rw [outer_old hF rfl (by omega)] at hbm
        simp only [World.shape?, old r (hr.lt b r hbm)]
    refine ⟨c.outer c0 [] 0 n, _, v, _, _, rfl, hK r h0' n0' hKr, ⟨fun b B hb => ?_, fun b hb => ?_, fun b b' r e1 e2 => ?_, fun b r e1 hx => ?_, fun r hx => ?_, fun b r e1 => ?_⟩, by show n + (c0.N - 0) = _; rw [hn0']; rfl, hv.outofL fok0 f1, hext⟩
    · rw [frameH, hget_happ] at hb
      cases e : hget (renH [] 0 n h0') b with
      | some B' =>
        rw [e] at hb; cases hb
        obtain ⟨a, A, k1, k2, rfl⟩ := hget_renH hF h0' b _ e
        obtain ⟨m, k3, k4⟩ := hr0.live a A k2
        exact ⟨m, (outer_rn hF k1).trans k3, k4.outofL fok0 (flatH_get f2 a A k2)⟩
      | none =>
        rw [e] at hb
        obtain ⟨m, k3, k4⟩ := hr.live b B hb
        exact ⟨m, (outer_old hF rfl (by have := live_lt hr.fresh k3; omega)).trans k3, k4.ext hr.fresh hext fun r hmr => old r (hr.lt b r (by rw [k3, hmr]))⟩
    · have hb : n + (c0.N - 0) ≤ b := hb
      rcases outer_cases (c := c) (c0 := c0) hF b with ⟨a, k1, k2⟩ | ⟨k1, k2, k3⟩
      · rw [k2]
        refine hr0.fresh a ?_
        rcases Nat.lt_or_ge a c0.N with g | g
        · have := rn_lt hF k1 g; omega
        · exact g
      · omega
    · rcases outer_cases (c := c) (c0 := c0) hF b with ⟨a, k1, k2⟩ | ⟨k1, k2, k3⟩ <;> rcases outer_cases (c := c) (c0 := c0) hF b' with ⟨a', g1, g2⟩ | ⟨g1, g2, g3⟩
      · rw [k2] at e1; rw [g2] at e2
        have := hr0.inj a a' r e1 e2
        subst this
        rw [k1] at g1; cases g1; rfl
      · rw [k2] at e1; rw [g3] at e2
        have := newr a r e1; have := hr.lt b' r e2; omega
      · rw [k3] at e1; rw [g2] at e2
        have := newr a' r e2; have := hr.lt b r e1; omega
      · rw [k3] at e1; rw [g3] at e2
        exact hr.inj b b' r e1 e2
    · have hx : c.X r := hx
      rcases outer_cases (c := c) (c0 := c0) hF b with ⟨a, k1, k2⟩ | ⟨k1, k2, k3⟩
      · rw [k2] at e1
        have := newr a r e1; have := hr.ltX r hx; omega
      · rw [k3] at e1
        exact hr.noX b r e1 hx
    · exact Nat.lt_of_lt_of_le (hr.ltX r hx) he.size
    · rcases outer_cases (c := c) (c0 := c0) hF b with ⟨a, k1, k2⟩ | ⟨k1, k2, k3⟩
      · rw [k2] at e1; exact hr0.lt a r e1
      · rw [k3] at e1; exact Nat.lt_of_lt_of_le (hr.lt b r e1) he.size
end
end Go.LX
