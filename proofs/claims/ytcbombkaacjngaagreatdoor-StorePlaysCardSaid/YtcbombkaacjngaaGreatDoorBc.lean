/-
  The ground of the proof, part 3: the calculus and what is proved with it.
-/
import Derived.Test.YtcbombkaacjngaaGreatDoorBb
import Derived.Below
import Derived.Test.YtcbombkaacjngaaGreatDoorBa
namespace Go.LX
open Go
set_option maxHeartbeats 32000000
def nget : List (Nat × Nat) → Nat → Option Nat
 | [],_ => none
 | (a,x) :: l,b => match Nat.beq a b with
  | true => some x
  | false => nget l b
def nback : List (Nat × Nat) → Nat → Option Nat
 | [],_ => none
 | (a,x) :: l,b => match Nat.beq x b with
  | true => some a
  | false => nback l b
inductive SEq (s s' : Unit → ByteArray) : Prop
 | mk (h : s () = s' ())
theorem SEq.out {s s' : Unit → ByteArray} (h : SEq s s') : s () = s' () := by cases h with | mk h => exact h
def pvle : PV → PV → Prop
 | _,.undef => True
 | .int k e,.int k' e' => k = k' ∧ e.val = e'.val
 | .bool b,.bool b' => b = b'
 | .str s,.str s' => SEq s s'
 | .nilp,.nilp => True
 | .nils,.nils => True
 | .nils,.vsl n _ _ => n.val = 0
 | .nilif,.nilif => True
 | .nilfn,.nilfn => True
 | .nilm,.nilm => True
 | .fn f,.fn f' => f = f'
 | .vsl n _ l,.vsl n' _ l' => n.val = n'.val ∧ l = l'
 | .vp _ l o,.vp _ l' o' => l = l' ∧ o.val = o'.val
 | _,_ => False
def pvles : List PV → List PV → Prop
 | [],[] => True
 | x :: l,y :: m => pvle x y ∧ pvles l m
 | _,_ => False
def lbl : LB → List PV → Prop
 | .pure _ l,l' => l = l' ∨ pvles l l'
 | _,_ => False
mutual
def lvle (ρ : List (Nat × Nat)) (vs : List Nat) (h : LH) : LV → LV → Prop
 | _,.undef => True
 | .p u,.p u' => pvle u u'
 | .p .nils,.sl b' _ _ o' n' => b' ∈ vs ∧ o'.val = 0 ∧ n'.val = 0
 | .ptr b o,.ptr b' o' => nget ρ b = some b' ∧ o.val = o'.val
 | .mp b,.mp b' => nget ρ b = some b'
 | .sl b e sz o n,.sl b' e' sz' o' n' => nget ρ b = some b' ∧ e = e' ∧ sz = sz' ∧ o.val = o'.val ∧ n.val = n'.val
 | .sl b _ _ o n,.p (.vsl n' _ l') => nget ρ b = none ∧ o.val = 0 ∧ n.val = n'.val ∧ ∃ B,hget h b = some B ∧ lbl B l'
 | .agg l,.agg l' => lvles ρ vs h l l'
 | .tup l,.tup l' => lvles ρ vs h l l'
 | .iface t v,.iface t' v' => t = t' ∧ lvle ρ vs h v v'
 | .fn f l,.fn f' l' => f = f' ∧ lvles ρ vs h l l'
 | .nul,.nul => True
 | _,_ => False
def lvles (ρ : List (Nat × Nat)) (vs : List Nat) (h : LH) : List LV → List LV → Prop
 | [],[] => True
 | x :: l,y :: m => lvle ρ vs h x y ∧ lvles ρ vs h l m
 | _,_ => False
end
def lble (ρ : List (Nat × Nat)) (vs : List Nat) (h : LH) : LB → LB → Prop
 | .pure _ l,.pure _ l' => l = l' ∨ pvles l l'
 | .pure _ l,.mix l' => lvles ρ vs h (pvs l) l'
 | .mix l,.mix l' => lvles ρ vs h l l'
 | .mix l,.pure _ l' => lvles ρ vs h l (pvs l')
 | .iter s p,.iter s' p' => SEq s s' ∧ p.val = p'.val
 | .fix g o,.fix g' o' => g = g' ∧ o = o'
 | .bld t l,.bld t' l' => t = t' ∧ lvles ρ vs h l l'
 | .set l,.set l' => l = l'
 | .kv l v,.kv l' v' => l = l' ∧ v = v'
 | .frz l,.frz l' => l = l'
 | _,_ => False
def lhle (ρ : List (Nat × Nat)) (vs : List Nat) (h : LH) : LH → Prop
 | [] => True
 | (b',B') :: l => (match nback ρ b' with
  | some b => match hget h b with
   | some B => lble ρ vs h B B'
   | none => False
  | none => b' ∈ vs ∧ ∃ sy,B' = .pure sy []) ∧ lhle ρ vs h l
def rok (n0 n' : Nat) (vs : List Nat) : List (Nat × Nat) → Bool
 | [] => true
 | (a,b) :: l => (if a < n0 then a == b else decide (n0 ≤ b)) && decide (b < n') && !(vs.contains b) && (nget l a).isNone && (nback l b).isNone && rok n0 n' vs l
def vok (n0 n' : Nat) : List Nat → Bool
 | [] => true
 | b :: l => decide (n0 ≤ b) && decide (b < n') && vok n0 n' l
section
variable {c : Ctx} {w : World}
theorem nget_cons (a x b : Nat) (l : List (Nat × Nat)) : nget ((a,x) :: l) b = if a = b then some x else nget l b := by
 rw [nget]
 by_cases e : a = b
 ·subst e; rw [if_pos rfl,Nat.beq_refl]
 ·rw [if_neg e,nbeq e]
theorem nback_cons (a x b : Nat) (l : List (Nat × Nat)) : nback ((a,x) :: l) b = if x = b then some a else nback l b := by
 rw [nback]
 by_cases e : x = b
 ·subst e; rw [if_pos rfl,Nat.beq_refl]
 ·rw [if_neg e,nbeq e]
structure ROK (n0 n' : Nat) (vs : List Nat) (ρ : List (Nat × Nat)) : Prop where
 iff : ∀ a b,nget ρ a = some b ↔ nback ρ b = some a
 low : ∀ a b,nget ρ a = some b → a < n0 → a = b
 high : ∀ a b,nget ρ a = some b → n0 ≤ a → n0 ≤ b
 lt : ∀ a b,nget ρ a = some b → b < n'
 vs : ∀ a b,nget ρ a = some b → b ∉ vs
theorem rok_ok {n0 n' : Nat} {vs : List Nat} : ∀ {ρ : List (Nat × Nat)},rok n0 n' vs ρ = true → ROK n0 n' vs ρ
 | [],_ => ⟨fun a b => by simp [nget,nback],fun a b h => by simp [nget] at h,fun a b h => by simp [nget] at h,fun a b h => by simp [nget] at h,fun a b h => by simp [nget] at h⟩
 | (x,y) :: ρ,h => by
  simp only [rok,Bool.and_eq_true,Bool.not_eq_true',decide_eq_true_eq,Option.isNone_iff_eq_none] at h
  obtain ⟨⟨⟨⟨⟨h1,h2⟩,h3⟩,h4⟩,h5⟩,h6⟩ := h
  obtain ⟨k1,k2,k3,k4,k5⟩ := rok_ok h6
  have key : ∀ a b,nget ((x,y) :: ρ) a = some b → (a = x ∧ b = y) ∨ nget ρ a = some b := by
   intro a b hab
   rw [nget_cons] at hab
   by_cases e : x = a
   ·rw [if_pos e] at hab; cases hab; exact .inl ⟨e.symm,rfl⟩
   ·rw [if_neg e] at hab; exact .inr hab
  refine ⟨fun a b => ?_,fun a b hab ha => ?_,fun a b hab ha => ?_,fun a b hab => ?_,fun a b hab => ?_⟩
  ·rw [nget_cons,nback_cons]
   by_cases e : x = a
   ·subst e
    rw [if_pos rfl]
    by_cases e2 : y = b
    ·subst e2; simp
    ·rw [if_neg e2]
     constructor
     ·intro h; cases h; exact absurd rfl e2
     ·intro h; rw [(k1 x b).2 h] at h4; cases h4
   ·rw [if_neg e]
    by_cases e2 : y = b
    ·subst e2
     rw [if_pos rfl]
     constructor
     ·intro h; rw [(k1 a y).1 h] at h5; cases h5
     ·intro h; cases h; exact absurd rfl e
    ·rw [if_neg e2]; exact k1 a b
  ·rcases key a b hab with ⟨rfl,rfl⟩ | h
   ·rw [if_pos ha] at h1; simpa using h1
   ·exact k2 a b h ha
  ·rcases key a b hab with ⟨rfl,rfl⟩ | h
   ·rw [if_neg (by omega)] at h1; simpa using h1
   ·exact k3 a b h ha
  ·rcases key a b hab with ⟨rfl,rfl⟩ | h
   ·exact h2
   ·exact k4 a b h
  ·rcases key a b hab with ⟨rfl,rfl⟩ | h
   ·simpa using h3
   ·exact k5 a b h
theorem vok_ok {n0 n' : Nat} : ∀ {vs : List Nat},vok n0 n' vs = true → ∀ b ∈ vs,n0 ≤ b ∧ b < n'
 | [],_,b,hb => by cases hb
 | x :: vs,h,b,hb => by
  simp only [vok,Bool.and_eq_true,decide_eq_true_eq] at h
  rcases List.mem_cons.1 hb with rfl | hb
  ·exact h.1
  ·exact vok_ok h.2 b hb
def Ctx.ren (c : Ctx) (ρ : List (Nat × Nat)) (vs : List Nat) (n' : Nat) : Ctx :=
 { m := fun b' => match nback ρ b' with | some b => c.m b | none => if b' ∈ vs then some none else none,X := c.X,N := n' }
variable {ρ : List (Nat × Nat)} {vs : List Nat} {n0 n' : Nat}
theorem ren_m (hρ : ROK n0 n' vs ρ) {a b : Nat} (h : nget ρ a = some b) : (c.ren ρ vs n').m b = c.m a := by
 show (match nback ρ b with | some b => c.m b | none => if b ∈ vs then some none else none) = _
 rw [(hρ.iff a b).1 h]
theorem ren_vs (hρ : ROK n0 n' vs ρ) {b : Nat} (h : b ∈ vs) : (c.ren ρ vs n').m b = some none := by
 show (match nback ρ b with | some b => c.m b | none => if b ∈ vs then some none else none) = _
 cases e : nback ρ b with
 | some a => exact absurd h (hρ.vs a b ((hρ.iff a b).2 e))
 | none => exact if_pos h
theorem ren_own (hρ : ROK n0 n' vs ρ) {b r : Nat} (h : (c.ren ρ vs n').m b = some (some r)) : ∃ a,nget ρ a = some b ∧ c.m a = some (some r) := by
 have h : (match nback ρ b with | some b => c.m b | none => if b ∈ vs then some none else none) = some (some r) := h
 cases e : nback ρ b with
 | some a => rw [e] at h; exact ⟨a,(hρ.iff a b).2 e,h⟩
 | none =>
  rw [e] at h
  dsimp only at h
  split at h <;> cases h
theorem ren_none {b : Nat} (h : nback ρ b = none) (h2 : b ∉ vs) : (c.ren ρ vs n').m b = none := by
 show (match nback ρ b with | some b => c.m b | none => if b ∈ vs then some none else none) = _
 rw [h]; exact if_neg h2
theorem PR.ren (hρ : ROK n0 n' vs ρ) {u : PV} {x : Value} (h : PR c.mut w u x) : PR (c.ren ρ vs n').mut w u x := by
 have hm : ∀ r,¬ c.mut r → ¬ (c.ren ρ vs n').mut r := by
  rintro r hr (hx | ⟨b,hb⟩)
  ·exact hr (.inl hx)
  ·obtain ⟨a,_,ha⟩ := ren_own hρ hb
   exact hr (.inr ⟨a,ha⟩)
 induction h with
 | int k e n hn => exact .int k e n hn
 | bool b => exact .bool b
 | str s => exact .str s
 | nilp => exact .nilp
 | nils => exact .nils
 | nilif => exact .nilif
 | nilfn => exact .nilfn
 | nilm => exact .nilm
 | fn f => exact .fn f
 | vsl0 n sy l a k h0 hk => exact .vsl0 n sy l a k h0 hk
 | vsl n sy l a k cp f h0 hs hM hlt hk hcp hcell hrel ih => exact .vsl n sy l a k cp f h0 hs (hm _ hM) hlt hk hcp hcell ih
 | vp sy l o a k f h0 hs hM hlt hcell hrel ih => exact .vp sy l o a k f h0 hs (hm _ hM) hlt hcell ih
 | undef x hx => exact .undef x hx
theorem pvle_refl (u : PV) : pvle u u := by cases u <;> first | exact SEq.mk rfl | simp [pvle]
theorem pvles_get : ∀ {l m : List PV},pvles l m → l.length = m.length ∧ ∀ (j : Nat) (u' : PV),m[j]? = some u' → ∃ u,l[j]? = some u ∧ pvle u u'
 | [],[],_ => ⟨rfl,fun j u' h => by simp at h⟩
 | x :: l,y :: m,hl => by
  obtain ⟨h1,h2⟩ := pvles_get hl.2
  refine ⟨by simp [h1],fun j u' hj => ?_⟩
  cases j with
  | zero => simp at hj; subst hj; exact ⟨x,rfl,hl.1⟩
  | succ j => simp at hj; obtain ⟨u,h3,h4⟩ := h2 j u' hj; exact ⟨u,by simpa using h3,h4⟩
 | [],_ :: _,hl => hl.elim
 | _ :: _,[],hl => hl.elim
theorem PR.le {M : Nat → Prop} {u u' : PV} {x : Value} (h : PR M w u x) (hle : pvle u u') : PR M w u' x := by
 cases u' with
 | undef => exact .undef x h.one
 | int k e =>
  cases h <;> try exact hle.elim
  rename_i hn; obtain ⟨rfl,h2⟩ := hle; exact .int _ _ _ (h2.symm.trans hn)
 | bool b =>
       cases h <;> try exact hle.elim
       have : _ = b := hle; subst this; exact .bool _
 | str s =>
       cases h <;> try exact hle.elim
       rw [SEq.out hle]; exact .str _
 | nilp => cases h <;> first | exact hle.elim | exact .nilp
 | nils => cases h <;> first | exact hle.elim | exact .nils
 | nilif => cases h <;> first | exact hle.elim | exact .nilif
 | nilfn => cases h <;> first | exact hle.elim | exact .nilfn
 | nilm => cases h <;> first | exact hle.elim | exact .nilm
 | fn f =>
      cases h <;> try exact hle.elim
      have : _ = f := hle; subst this; exact .fn _
 | vsl n sy l =>
  cases h with
  | nils => exact .vsl0 _ _ _ _ _ hle (Nat.zero_le _)
  | vsl0 n1 sy1 l1 a k h0 hk => obtain ⟨h1,rfl⟩ := hle; exact .vsl0 _ _ _ _ _ (h1.symm.trans h0) hk
  | vsl n1 sy1 l1 a k cp f h0 hs hM hlt hk hcp hcell hrel => obtain ⟨h1,rfl⟩ := hle; exact .vsl _ _ _ a k cp f (h1.symm.trans h0) hs hM hlt hk hcp hcell hrel
  | _ => exact hle.elim
 | vp sy l o =>
  cases h with
  | vp sy1 l1 o1 a k f h0 hs hM hlt hcell hrel => obtain ⟨rfl,h1⟩ := hle; exact .vp _ _ _ a k f (h1.symm.trans h0) hs hM hlt hcell hrel
  | _ => exact hle.elim
theorem lvles_get {h : LH} : ∀ {l m : List LV},lvles ρ vs h l m → l.length = m.length ∧ ∀ (j : Nat) (u' : LV),m[j]? = some u' → ∃ u,l[j]? = some u ∧ lvle ρ vs h u u'
 | [],[],_ => ⟨rfl,fun j u' h => by simp at h⟩
 | x :: l,y :: m,hl => by
  rw [lvles] at hl
  obtain ⟨h1,h2⟩ := lvles_get hl.2
  refine ⟨by simp [h1],fun j u' hj => ?_⟩
  cases j with
  | zero => simp at hj; subst hj; exact ⟨x,rfl,hl.1⟩
  | succ j => simp at hj; obtain ⟨u,h3,h4⟩ := h2 j u' hj; exact ⟨u,by simpa using h3,h4⟩
 | [],_ :: _,hl => by rw [lvles] at hl <;> first | exact hl.elim | (intros; simp_all)
 | _ :: _,[],hl => by rw [lvles] at hl <;> first | exact hl.elim | (intros; simp_all)
theorem LR.ren {h : LH} (hr : HR c w h) (hρ : ROK n0 n' vs ρ) {u : LV} {x : Value} (hu : LR c w u x) : ∀ {u' : LV},lvle ρ vs h u u' → LR (c.ren ρ vs n') w u' x := by
 induction hu with
 | p v x hv =>
  intro u' hle
  cases u' <;> try (rw [lvle] at hle <;> first | exact hle.elim | (intros; simp_all; done))
  ·exact .p _ _ ((hv.ren hρ).le hle)
  ·cases v <;> try (rw [lvle] at hle <;> first | exact hle.elim | (intros; simp_all; done))
   rename_i b' e' sz' o' n1
   obtain ⟨h1,h2,h3⟩ := hle
   cases hv
   exact .slv _ _ _ _ _ (ren_vs hρ h1) h2 h3
  ·exact .undef _
 | ptr b o r k hm ho =>
  intro u' hle
  cases u' <;> try (rw [lvle] at hle <;> first | exact hle.elim | (intros; simp_all; done))
  ·obtain ⟨h1,h2⟩ := hle
   exact .ptr _ _ r k ((ren_m hρ h1).trans hm) (h2.symm.trans ho)
  ·exact .undef _
 | goneP b o a hm hb =>
  intro u' hle
  cases u' <;> try (rw [lvle] at hle <;> first | exact hle.elim | (intros; simp_all; done))
  ·obtain ⟨h1,h2⟩ := hle
   exact .goneP _ _ a ((ren_m hρ h1).trans hm) (hρ.lt _ _ h1)
  ·exact .undef _
 | sl b e sz o n r j k cp tot hm ho hn hk hc hs ht =>
  intro u' hle
  cases u' <;> try (rw [lvle] at hle <;> first | exact hle.elim | (intros; simp_all; done))
  ·rename_i v
   cases v <;> try (rw [lvle] at hle <;> first | exact hle.elim | (intros; simp_all; done))
   rename_i n1 sy1 l1
   obtain ⟨h1,h2,h3,B,h4,h5⟩ := hle
   obtain ⟨m,hm',hBR⟩ := hr.live b _ h4
   rw [hm] at hm'; cases hm'
   obtain ⟨l,cur,ty,hg,hl,hrel,hpw⟩ : ∃ (l : List PV) (cur : Array Value) (ty : _),w.heap[r]? = some (.cells cur ty (0,0)) ∧ l.length ≤ cur.size ∧ (∀ (j : Nat) (u : PV),l[j]? = some u → PR c.mut w u (cur.getD j Go.undef)) ∧ (∀ (j : Nat) (u' : PV),l1[j]? = some u' → ∃ u,l[j]? = some u ∧ pvle u u') := by
    cases B with
    | pure sy l =>
     obtain ⟨cur,ty,hg,hl,hrel⟩ := hBR
     refine ⟨l,cur,ty,hg,hl,hrel,?_⟩
     rcases h5 with rfl | h5
     ·exact fun j u' hu => ⟨u',hu,pvle_refl u'⟩
     ·exact (pvles_get h5).2
    | mix l => exact h5.elim
    | iter s p => exact h5.elim
    | set l => exact h5.elim
    | kv l vs => exact h5.elim
    | frz l => exact h5.elim
    | fix g o => exact h5.elim
    | bld t l => exact h5.elim
   have hj : j = 0 := by rw [h2] at ho; omega
   subst hj
   rcases Nat.eq_zero_or_pos k with h0 | h0
   ·subst h0
    exact .p _ _ (.vsl0 _ _ _ _ _ (by rw [← h3,hn]; rfl) hc)
   ·refine .p _ _ (.vsl _ _ _ ⟨r,0,none⟩ k cp (fun j => cur.getD j Go.undef) (h3.symm.trans hn) rfl ?_ (hr.lt b r hm) hk hc (fun j u hu => ?_) (fun j u hu => let ⟨v,h6,h7⟩ := hpw j u hu; ((hrel j v h6).ren hρ).le h7))
    ·rintro (hx | ⟨b2,hb2⟩)
     ·exact hr.noX b r hm hx
     ·obtain ⟨a,ha,ha2⟩ := ren_own hρ hb2
      have := hr.inj a b r ha2 hm
      rw [this,h1] at ha; cases ha
    ·obtain ⟨v,hu,_⟩ := hpw j u hu
     have hj := (List.getElem?_eq_some_iff.1 hu).1
     have := cells_at (w := w) (n := 0) hg cur.size (by omega) j (cur.getD j Go.undef) ?_
     ·exact this
     ·simp only [List.drop_zero,Array.getD_eq_getD_getElem?]
      have hc' : cur[j]? = some (cur[j]'(by omega)) := Array.getElem?_eq_getElem (by omega)
      rw [hc',List.getElem?_take,if_pos (by omega)]
      simp
  ·obtain ⟨h1,rfl,rfl,h2,h3⟩ := hle
   exact .sl _ _ _ _ _ r j k cp tot ((ren_m hρ h1).trans hm) (h2.symm.trans ho) (h3.symm.trans hn) hk hc hs ht
  ·exact .undef _
 | slv b e sz o n hm ho hn =>
  intro u' hle
  cases u' <;> try (rw [lvle] at hle <;> first | exact hle.elim | (intros; simp_all; done))
  ·rename_i v
   cases v <;> try (rw [lvle] at hle <;> first | exact hle.elim | (intros; simp_all; done))
   obtain ⟨h1,h2,h3,B,h4,h5⟩ := hle
   exact .p _ _ (.vsl0 _ _ _ _ _ (by rw [← h3,hn]) (Nat.zero_le _))
  ·obtain ⟨h1,rfl,rfl,h2,h3⟩ := hle
   exact .slv _ _ _ _ _ ((ren_m hρ h1).trans hm) (h2.symm.trans ho) (h3.symm.trans hn)
  ·exact .undef _
 | slz b e sz o n a r tot hm ho hn hs h0 =>
  intro u' hle
  cases u' <;> try (rw [lvle] at hle <;> first | exact hle.elim | (intros; simp_all; done))
  ·rename_i v
   cases v <;> try (rw [lvle] at hle <;> first | exact hle.elim | (intros; simp_all; done))
   obtain ⟨h1,h2,h3,B,h4,h5⟩ := hle
   exact .p _ _ (.vsl0 _ _ _ _ _ (by rw [← h3,hn]) (Nat.zero_le _))
  ·obtain ⟨h1,rfl,rfl,h2,h3⟩ := hle
   exact .slz _ _ _ _ _ a r tot ((ren_m hρ h1).trans hm) (h2.symm.trans ho) (h3.symm.trans hn) hs h0
  ·exact .undef _
 | goneS b e sz o n a k cp hm hb =>
  intro u' hle
  cases u' <;> try (rw [lvle] at hle <;> first | exact hle.elim | (intros; simp_all; done))
  ·rename_i v
   cases v <;> try (rw [lvle] at hle <;> first | exact hle.elim | (intros; simp_all; done))
   obtain ⟨h1,h2,h3,B,h4,h5⟩ := hle
   obtain ⟨m,hm',hBR⟩ := hr.live b _ h4
   rw [hm] at hm'; cases hm'
  ·obtain ⟨h1,rfl,rfl,h2,h3⟩ := hle
   exact .goneS _ _ _ _ _ a k cp ((ren_m hρ h1).trans hm) (hρ.lt _ _ h1)
  ·exact .undef _
 | sla b o n r j k cp hm ho hn hk hc =>
  intro u' hle
  cases u' <;> try (rw [lvle] at hle <;> first | exact hle.elim | (intros; simp_all; done))
  ·exact .undef _
 | goneA b o n x hm hb =>
  intro u' hle
  cases u' <;> try (rw [lvle] at hle <;> first | exact hle.elim | (intros; simp_all; done))
  ·exact .undef _
 | mp b r hm =>
  intro u' hle
  cases u' <;> try (rw [lvle] at hle <;> first | exact hle.elim | (intros; simp_all; done))
  ·exact .mp _ r ((ren_m hρ hle).trans hm)
  ·exact .undef _
 | goneM b x hm hb =>
  intro u' hle
  cases u' <;> try (rw [lvle] at hle <;> first | exact hle.elim | (intros; simp_all; done))
  ·exact .goneM _ x ((ren_m hρ hle).trans hm) (hρ.lt _ _ hle)
  ·exact .undef _
 | agg l x hl hrel ih =>
  intro u' hle
  cases u' <;> try (rw [lvle] at hle <;> first | exact hle.elim | (intros; simp_all; done))
  ·obtain ⟨h1,h2⟩ := lvles_get hle
   exact .agg _ _ (h1.symm.trans hl) fun j u hu => let ⟨v,h3,h4⟩ := h2 j u hu; ih j v h3 h4
  ·exact .undef _
 | tup l x hl hrel ih =>
  intro u' hle
  cases u' <;> try (rw [lvle] at hle <;> first | exact hle.elim | (intros; simp_all; done))
  ·obtain ⟨h1,h2⟩ := lvles_get hle
   exact .tup _ _ (h1.symm.trans hl) fun j u hu => let ⟨v,h3,h4⟩ := h2 j u hu; ih j v h3 h4
  ·exact .undef _
 | iface t v x hv ih =>
  intro u' hle
  cases u' <;> try (rw [lvle] at hle <;> first | exact hle.elim | (intros; simp_all; done))
  ·obtain ⟨rfl,h1⟩ := hle
   exact .iface _ _ _ (ih h1)
  ·exact .undef _
 | fn f l x hl hrel ih =>
  intro u' hle
  cases u' <;> try (rw [lvle] at hle <;> first | exact hle.elim | (intros; simp_all; done))
  ·obtain ⟨rfl,hle⟩ := hle
   obtain ⟨h1,h2⟩ := lvles_get hle
   exact .fn _ _ _ (h1.symm.trans hl) fun j u hu => let ⟨v,h3,h4⟩ := h2 j u hu; ih j v h3 h4
  ·exact .undef _
 | nul =>
  intro u' hle
  cases u' <;> try (rw [lvle] at hle <;> first | exact hle.elim | (intros; simp_all; done))
  ·exact .nul
  ·exact .undef _
 | undef x =>
  intro u' hle
  cases u' <;> try (rw [lvle] at hle <;> first | exact hle.elim | (intros; simp_all; done))
  ·exact .undef _
theorem lhle_get {h : LH} : ∀ {h' : LH},lhle ρ vs h h' → ∀ b' B',hget h' b' = some B' → (∃ b B,nback ρ b' = some b ∧ hget h b = some B ∧ lble ρ vs h B B') ∨ (nback ρ b' = none ∧ b' ∈ vs ∧ ∃ sy,B' = .pure sy [])
 | [],_,b',B',hb => by cases hb
 | (d,D) :: h',hl,b',B',hb => by
  rw [hget_cons] at hb
  by_cases e : d = b'
  ·rw [if_pos e] at hb; cases hb
   subst e
   have h1 := hl.1
   cases e2 : nback ρ d with
   | some b =>
    rw [e2] at h1
    dsimp only at h1
    cases e3 : hget h b with
    | some B => rw [e3] at h1; exact .inl ⟨b,B,rfl,e3,h1⟩
    | none => rw [e3] at h1; exact h1.elim
   | none => rw [e2] at h1; exact .inr ⟨rfl,h1⟩
  ·rw [if_neg e] at hb; exact lhle_get hl.2 b' B' hb
theorem Re.of {s s' : LS} (ρ : List (Nat × Nat)) (vs : List Nat) (hn : n0 ≤ s'.n) (hρ : rok n0 s'.n vs ρ = true) (hv : vok n0 s'.n vs = true) (ht : lvles ρ vs s.h s.t s'.t) (hh : lhle ρ vs s.h s'.h) : Re n0 s s' := by
 refine ⟨fun c0 w0 c a w hc0 he hs => ?_⟩
 have hρ := rok_ok hρ
 have hv := vok_ok hv
 refine ⟨c.ren ρ vs s'.n,?_,?_⟩
 ·refine ⟨he.os,he.tape,he.output,he.size,he.X,by rw [hc0]; exact hn,fun b hb => ?_,fun b r hb hm => ?_,he.same,fun b r hb hm => ?_⟩
  ·rw [hc0] at hb
   cases e : nback ρ b with
   | some a =>
    have hab := (hρ.iff a b).2 e
    have ha : a < n0 := by
     rcases Nat.lt_or_ge a n0 with h1 | h1
     ·exact h1
     ·have := hρ.high a b hab h1; omega
    have h2 := hρ.low a b hab ha
    subst h2
    rw [ren_m hρ hab]
    exact he.old a (by omega)
   | none => exact .inr (ren_none e (fun h => by have := (hv b h).1; omega))
  ·obtain ⟨a,ha,hm2⟩ := ren_own hρ hm
   refine he.new a r ?_ hm2
   rw [hc0] at hb ⊢
   rcases Nat.lt_or_ge a n0 with h1 | h1
   ·have := hρ.low a b ha h1; omega
   ·exact h1
  ·obtain ⟨a,ha,hm2⟩ := ren_own hρ hm
   rw [hc0] at hb
   have ha' : a < n0 := by
    rcases Nat.lt_or_ge a n0 with h1 | h1
    ·exact h1
    ·have := hρ.high a b ha h1; omega
   have := hρ.low a b ha ha'
   subst this
   exact he.shape a r (by omega) hm2
 ·obtain ⟨htl,htr⟩ := lvles_get ht
  refine ⟨htl.symm.trans hs.tl,fun i u hu => ?_,hs.df,⟨fun b B hb => ?_,fun b hb => ?_,fun b b' r h1 h2 => ?_,fun b r h1 => ?_,hs.hr.ltX,fun b r h1 => ?_⟩,rfl⟩
  ·obtain ⟨v,h1,h2⟩ := htr i u hu
   exact (hs.tr i v h1).ren hs.hr hρ h2
  ·rcases lhle_get hh b B hb with ⟨a,A,h1,h2,h3⟩ | ⟨h1,h2,sy,rfl⟩
   ·obtain ⟨m,hm,hBR⟩ := hs.hr.live a A h2
    refine ⟨m,(ren_m hρ ((hρ.iff a b).2 h1)).trans hm,?_⟩
    cases A <;> cases B <;> try exact h3.elim
    ·rename_i sy l sy' l'
     have hpw : l.length = l'.length ∧ ∀ (j : Nat) (u' : PV),l'[j]? = some u' → ∃ u,l[j]? = some u ∧ pvle u u' := by
      rcases h3 with rfl | h3
      ·exact ⟨rfl,fun j u' hu => ⟨u',hu,by cases u' <;> first | exact SEq.mk rfl | simp [pvle]⟩⟩
      ·exact pvles_get h3
     cases m with
     | none =>
      have : l = [] := hBR
      subst this
      exact List.eq_nil_of_length_eq_zero hpw.1.symm
     | some r =>
      obtain ⟨cur,ty,hg,hl,hrel⟩ := hBR
      exact ⟨cur,ty,hg,by omega,fun j u hu => let ⟨v,h4,h5⟩ := hpw.2 j u hu; ((hrel j v h4).ren hρ).le h5⟩
    ·rename_i sy l l'
     obtain ⟨hl1,hl2⟩ := lvles_get h3
     rw [pvs_length] at hl1
     cases m with
     | none =>
      have : l = [] := hBR
      subst this
      exact List.eq_nil_of_length_eq_zero hl1.symm
     | some r =>
      obtain ⟨cur,ty,hg,hl,hrel⟩ := hBR
      refine ⟨cur,ty,hg,by omega,fun j u hu => ?_⟩
      obtain ⟨v,h4,h5⟩ := hl2 j u hu
      rw [pvs_get] at h4
      cases e : l[j]? with
      | none => rw [e] at h4; cases h4
      | some pv =>
       rw [e] at h4; cases h4
       exact (LR.p _ _ (hrel j pv e)).ren hs.hr hρ h5
    ·rename_i l sy' l'
     obtain ⟨hl1,hl2⟩ := lvles_get h3
     rw [pvs_length] at hl1
     cases m with
     | none =>
      have : l = [] := hBR
      subst this
      exact List.eq_nil_of_length_eq_zero hl1.symm
     | some r =>
      obtain ⟨cur,ty,hg,hl,hrel⟩ := hBR
      refine ⟨cur,ty,hg,by omega,fun j u hu => ?_⟩
      obtain ⟨v,h4,h5⟩ := hl2 j (.p u) (by rw [pvs_get,hu]; rfl)
      have h6 := (hrel j v h4).ren hs.hr hρ h5
      cases h6 with
      | p _ _ h7 => exact h7
    ·rename_i l l'
     obtain ⟨hl1,hl2⟩ := lvles_get h3
     cases m with
     | none =>
      have : l = [] := hBR
      subst this
      exact List.eq_nil_of_length_eq_zero hl1.symm
     | some r =>
      obtain ⟨cur,ty,hg,hl,hrel⟩ := hBR
      exact ⟨cur,ty,hg,by omega,fun j u hu => let ⟨v,h4,h5⟩ := hl2 j u hu; (hrel j v h4).ren hs.hr hρ h5⟩
    ·obtain ⟨h3,h4⟩ := h3
     cases m with
     | none => exact hBR.elim
     | some r => obtain ⟨p,h5,h6⟩ := hBR; exact ⟨p,h4.symm.trans h5,by rw [← h3.out]; exact h6⟩
    rotate_left
    ·rename_i t l t' l'
     obtain ⟨rfl,h3⟩ := h3
     obtain ⟨hl1,hl2⟩ := lvles_get h3
     cases m with
     | none => exact hBR.elim
     | some r =>
      obtain ⟨cur,hg,hl,h0,hrel⟩ := hBR
      exact ⟨cur,hg,by omega,h0,fun j u hu => let ⟨v,h4,h5⟩ := hl2 j u hu; (hrel j v h4).ren hs.hr hρ h5⟩
    ·rename_i l l'
     have h3 : l = l' := h3
     subst h3
     cases m with
     | none => exact hBR.elim
     | some r => exact hBR
    ·obtain ⟨rfl,rfl⟩ := h3
     cases m with
     | none => exact hBR.elim
     | some r => exact hBR
    ·rename_i l l'
     have h3 : l = l' := h3
     subst h3
     cases m with
     | none => exact hBR.elim
     | some r =>
      obtain ⟨cur,ty,fr,h1,h2,hrel⟩ := hBR
      exact ⟨cur,ty,fr,h1,h2,fun j u hu => (hrel j u hu).ren hρ⟩
    ·obtain ⟨rfl,rfl⟩ := h3
     cases m with
     | some r => exact hBR
     | none =>
      refine ⟨hBR.1,fun h => hBR.2 ?_⟩
      rcases h with hx | ⟨b,hb⟩
      ·exact .inl hx
      ·obtain ⟨a,_,k⟩ := ren_own hρ hb
       exact .inr ⟨a,k⟩
   ·exact ⟨none,ren_vs hρ h2,rfl⟩
  ·have hb : s'.n ≤ b := hb
   cases e : nback ρ b with
   | some a => have := hρ.lt a b ((hρ.iff a b).2 e); omega
   | none => exact ren_none e (fun h => by have := (hv b h).2; omega)
  ·obtain ⟨a,ha,k1⟩ := ren_own hρ h1
   obtain ⟨a',ha',k2⟩ := ren_own hρ h2
   have := hs.hr.inj a a' r k1 k2
   subst this
   rw [ha] at ha'; cases ha'; rfl
  ·obtain ⟨a,_,k1⟩ := ren_own hρ h1
   exact hs.hr.noX a r k1
  ·obtain ⟨a,_,k1⟩ := ren_own hρ h1
   exact hs.hr.lt a r k1
theorem CallF.mono {P : Unit → Program} {f : Nat} {args : List LV} {h : LH} {n : Nat} {K K' : LV → LH → Nat → Prop} (hc : CallF P f args h n K) (hk : ∀ r h n,K r h n → K' r h n) : CallF P f args h n K' := by
 cases hc with
 | mk h1 h2 => exact .mk h1 fun c w xs a b d e => (h2 c w xs a b d e).mono fun en w' ⟨c',r,v,h',n',g1,g2,g3⟩ => ⟨c',r,v,h',n',g1,hk _ _ _ g2,g3⟩
def Ctx.empty : Ctx := ⟨fun _ => none,fun _ => False,0⟩
end
theorem Re.at {n0 : Nat} {s s' : LS} (ρ : List (Nat × Nat)) (vs : List Nat) (hn : n0 ≤ s'.n := by first | exact Nat.zero_le _ | exact Nat.le_refl _ | decide | (dsimp only; decide)) (hρ : rok n0 s'.n vs ρ = true := by rfl) (hv : vok n0 s'.n vs = true := by rfl) (ht : lvles ρ vs s.h s.t s'.t := by (try (conv => cbv)); (repeat' (first | exact trivial | rfl | exact SEq.mk rfl | (exact SEq.mk (by first | assumption | (symm; assumption))) | (simp only [I.val]; done) | (simp only [I.val]; omega) | omega | assumption | (refine And.intro ?_ ?_) | exact Or.inl rfl | exact Or.inr (by assumption) | exact List.Mem.head _ | exact List.Mem.tail _ (List.Mem.head _) | exact ⟨_,rfl⟩ | exact ⟨_,rfl,Or.inl rfl⟩ | (refine ⟨_,rfl,Or.inr ?_⟩; (try (conv => cbv))) | (simp only [I.val] at *; first | omega | (subst_vars; rfl) | simp_all) | (refine Or.inr ?_; (try (conv => cbv)))))) (hh : lhle ρ vs s.h s'.h := by (try (conv => cbv)); (repeat' (first | exact trivial | rfl | exact SEq.mk rfl | (exact SEq.mk (by first | assumption | (symm; assumption))) | (simp only [I.val]; done) | (simp only [I.val]; omega) | omega | assumption | (refine And.intro ?_ ?_) | exact Or.inl rfl | exact Or.inr (by assumption) | exact List.Mem.head _ | exact List.Mem.tail _ (List.Mem.head _) | exact ⟨_,rfl⟩ | exact ⟨_,rfl,Or.inl rfl⟩ | (refine ⟨_,rfl,Or.inr ?_⟩; (try (conv => cbv))) | (simp only [I.val] at *; first | omega | (subst_vars; rfl) | simp_all) | (refine Or.inr ?_; (try (conv => cbv)))))) : Re n0 s s' := Re.of ρ vs hn hρ hv ht hh
end Go.LX
namespace Go.LX
open Go
set_option linter.unusedVariables false
set_option maxHeartbeats 32000000
def rn (ρ : List (Nat × Nat)) (n0 n b : Nat) : Option Nat :=
 match nget ρ b with
 | some b' => some b'
 | none => match Nat.blt b n0 with
  | true => none
  | false => some (b - n0 + n)
mutual
def renV (ρ : List (Nat × Nat)) (n0 n : Nat) : LV → LV
 | .p v => .p v
 | .ptr b o => match rn ρ n0 n b with
  | some b' => .ptr b' o
  | none => .undef
 | .sl b e sz o k => match rn ρ n0 n b with
  | some b' => .sl b' e sz o k
  | none => .undef
 | .sla _ _ _ => .undef
 | .mp b => match rn ρ n0 n b with
  | some b' => .mp b'
  | none => .undef
 | .agg l => .agg (renVs ρ n0 n l)
 | .tup l => .tup (renVs ρ n0 n l)
 | .iface t v => .iface t (renV ρ n0 n v)
 | .fn f l => .fn f (renVs ρ n0 n l)
 | .nul => .nul
 | .undef => .undef
def renVs (ρ : List (Nat × Nat)) (n0 n : Nat) : List LV → List LV
 | [] => []
 | x :: l => renV ρ n0 n x :: renVs ρ n0 n l
end
mutual
def okV (ρ : List (Nat × Nat)) : LV → Bool
 | .ptr b _ => (nget ρ b).isSome
 | .sl b _ _ _ _ => (nget ρ b).isSome
 | .sla _ _ _ => false
 | .mp b => (nget ρ b).isSome
 | .agg l => okVs ρ l
 | .tup l => okVs ρ l
 | .iface _ v => okV ρ v
 | .fn _ l => okVs ρ l
 | .p _ => true
 | .nul => true
 | .undef => true
def okVs (ρ : List (Nat × Nat)) : List LV → Bool
 | [] => true
 | x :: l => okV ρ x && okVs ρ l
end
def renB (ρ : List (Nat × Nat)) (n0 n : Nat) : LB → LB
 | .pure sy l => .pure sy l
 | .mix l => .mix (renVs ρ n0 n l)
 | .iter s p => .iter s p
 | .set l => .set l
 | .kv l vs => .kv l vs
 | .frz l => .frz l
 | .fix g o => .fix g o
 | .bld t l => .bld t (renVs ρ n0 n l)
def okB (ρ : List (Nat × Nat)) : LB → Bool
 | .mix l => okVs ρ l
 | .bld _ l => okVs ρ l
 | _ => true
def renH (ρ : List (Nat × Nat)) (n0 n : Nat) : LH → LH
 | [] => []
 | (b,B) :: l => match rn ρ n0 n b with
  | some b' => (b',renB ρ n0 n B) :: renH ρ n0 n l
  | none => renH ρ n0 n l
def hdels : List (Nat × Nat) → LH → LH
 | [],h => h
 | (_,b) :: l,h => hdel (hdels l h) b
def happ : LH → LH → LH
 | [],h => h
 | x :: l,h => x :: happ l h
def frameH (ρ : List (Nat × Nat)) (n0 n : Nat) (h h0 : LH) : LH := happ (renH ρ n0 n h0) (hdels ρ h)
def hmapOk (ρ : List (Nat × Nat)) (n0 n : Nat) (h : LH) : LH → Prop
 | [] => True
 | (b,B) :: l => (match nget ρ b with
  | some b' => hget h b' = some (renB ρ n0 n B)
  | none => False) ∧ okB ρ B = true ∧ hmapOk ρ n0 n h l
def fok (n0 n : Nat) : List (Nat × Nat) → Bool
 | [] => true
 | (a,b) :: l => decide (a < n0) && decide (b < n) && (nget l a).isNone && (nback l b).isNone && fok n0 n l
section
variable {c : Ctx} {w : World} {ρ : List (Nat × Nat)} {n0 n : Nat}
structure FOK (n0 n : Nat) (ρ : List (Nat × Nat)) : Prop where
 iff : ∀ a b,nget ρ a = some b ↔ nback ρ b = some a
 lo : ∀ a b,nget ρ a = some b → a < n0
 hi : ∀ a b,nget ρ a = some b → b < n
theorem fok_ok : ∀ {ρ : List (Nat × Nat)},fok n0 n ρ = true → FOK n0 n ρ
 | [],_ => ⟨fun a b => by simp [nget,nback],fun a b h => by simp [nget] at h,fun a b h => by simp [nget] at h⟩
 | (x,y) :: ρ,h => by
  simp only [fok,Bool.and_eq_true,decide_eq_true_eq,Option.isNone_iff_eq_none] at h
  obtain ⟨⟨⟨⟨h1,h2⟩,h4⟩,h5⟩,h6⟩ := h
  obtain ⟨k1,k2,k3⟩ := fok_ok h6
  have key : ∀ a b,nget ((x,y) :: ρ) a = some b → (a = x ∧ b = y) ∨ nget ρ a = some b := by
   intro a b hab
   rw [nget_cons] at hab
   by_cases e : x = a
   ·rw [if_pos e] at hab; cases hab; exact .inl ⟨e.symm,rfl⟩
   ·rw [if_neg e] at hab; exact .inr hab
  refine ⟨fun a b => ?_,fun a b hab => ?_,fun a b hab => ?_⟩
  ·rw [nget_cons,nback_cons]
   by_cases e : x = a
   ·subst e
    rw [if_pos rfl]
    by_cases e2 : y = b
    ·subst e2; simp
    ·rw [if_neg e2]
     constructor
     ·intro h; cases h; exact absurd rfl e2
     ·intro h; rw [(k1 x b).2 h] at h4; cases h4
   ·rw [if_neg e]
    by_cases e2 : y = b
    ·subst e2
     rw [if_pos rfl]
     constructor
     ·intro h; rw [(k1 a y).1 h] at h5; cases h5
     ·intro h; cases h; exact absurd rfl e
    ·rw [if_neg e2]; exact k1 a b
  ·rcases key a b hab with ⟨rfl,rfl⟩ | h
   ·exact h1
   ·exact k2 a b h
  ·rcases key a b hab with ⟨rfl,rfl⟩ | h
   ·exact h2
   ·exact k3 a b h
def foot (c : Ctx) (ρ : List (Nat × Nat)) (r : Nat) : Prop := ∃ a b,nget ρ a = some b ∧ c.m b = some (some r)
def Ctx.inner (c : Ctx) (ρ : List (Nat × Nat)) (n0 : Nat) : Ctx :=
 { m := fun b => match nget ρ b with | some b' => c.m b' | none => none,X := fun r => c.X r ∨ (c.own r ∧ ¬ foot c ρ r),N := n0 }
theorem inner_m {a b : Nat} (h : nget ρ a = some b) : (c.inner ρ n0).m a = c.m b := by
 show (match nget ρ a with | some b' => c.m b' | none => none) = _
 rw [h]
theorem inner_own (r : Nat) : (c.inner ρ n0).own r ↔ foot c ρ r := by
 constructor
 ·rintro ⟨a,ha⟩
  have ha : (match nget ρ a with | some b' => c.m b' | none => none) = some (some r) := ha
  cases e : nget ρ a with
  | none => rw [e] at ha; cases ha
  | some b => rw [e] at ha; exact ⟨a,b,e,ha⟩
 ·rintro ⟨a,b,h1,h2⟩
  exact ⟨a,(inner_m h1).trans h2⟩
theorem inner_mut (r : Nat) : (c.inner ρ n0).mut r ↔ c.mut r := by
 constructor
 ·rintro ((h | ⟨h,_⟩) | h)
  ·exact .inl h
  ·exact .inr h
  ·obtain ⟨a,b,h1,h2⟩ := (inner_own r).1 h
   exact .inr ⟨b,h2⟩
 ·rintro (h | h)
  ·exact .inl (.inl h)
  ·by_cases hf : foot c ρ r
   ·exact .inr ((inner_own r).2 hf)
   ·exact .inl (.inr ⟨h,hf⟩)
theorem PR.congr {M M' : Nat → Prop} (hM : ∀ r,M r ↔ M' r) {u : PV} {x : Value} (h : PR M w u x) : PR M' w u x := by
 have : M = M' := funext fun r => propext (hM r)
 rw [← this]; exact h
theorem okVs_mem : ∀ {l : List LV},okVs ρ l = true → ∀ u ∈ l,okV ρ u = true
 | [],_,u,hu => by cases hu
 | x :: l,h,u,hu => by
  simp only [okVs,Bool.and_eq_true] at h
  rcases List.mem_cons.1 hu with rfl | hu
  ·exact h.1
  ·exact okVs_mem h.2 u hu
theorem renVs_get : ∀ (l : List LV) (i : Nat),(renVs ρ n0 n l)[i]? = l[i]?.map (renV ρ n0 n)
 | [],i => by cases i <;> rfl
 | x :: l,0 => rfl
 | x :: l,i + 1 => by simp [renVs,renVs_get l i]
theorem renVs_length : ∀ (l : List LV),(renVs ρ n0 n l).length = l.length
 | [] => rfl
 | x :: l => by simp [renVs,renVs_length l]
theorem rn_dom {a b : Nat} (h : nget ρ a = some b) : rn ρ n0 n a = some b := by unfold rn; rw [h]
theorem LR.into (hF : FOK n0 n ρ) {v : LV} {x : Value} (h : LR c w v x) : ∀ {u : LV},v = renV ρ n0 n u → okV ρ u = true → LR (c.inner ρ n0) w u x := by
 have dom : ∀ {b : Nat},(nget ρ b).isSome = true → ∃ b',nget ρ b = some b' := fun h => Option.isSome_iff_exists.1 h
 have ptrNo : ∀ {b o} {v : LV},v = renV ρ n0 n (.ptr b o) → okV ρ (.ptr b o) = true → ∃ b',nget ρ b = some b' ∧ v = .ptr b' o := by
  intro b o v hv hok
  obtain ⟨b',hb⟩ := dom hok
  exact ⟨b',hb,by rw [hv,renV,rn_dom hb]⟩
 have slNo : ∀ {b e sz o k} {v : LV},v = renV ρ n0 n (.sl b e sz o k) → okV ρ (.sl b e sz o k) = true → ∃ b',nget ρ b = some b' ∧ v = .sl b' e sz o k := by
  intro b e sz o k v hv hok
  obtain ⟨b',hb⟩ := dom hok
  exact ⟨b',hb,by rw [hv,renV,rn_dom hb]⟩
 have mpNo : ∀ {b} {v : LV},v = renV ρ n0 n (.mp b) → okV ρ (.mp b) = true → ∃ b',nget ρ b = some b' ∧ v = .mp b' := by
  intro b v hv hok
  obtain ⟨b',hb⟩ := dom hok
  exact ⟨b',hb,by rw [hv,renV,rn_dom hb]⟩
 have lists : ∀ {l' : List LV} {xs : Array Value},(renVs ρ n0 n l').length = xs.size → okVs ρ l' = true → (∀ (j : Nat) (u : LV),(renVs ρ n0 n l')[j]? = some u → ∀ {u' : LV},u = renV ρ n0 n u' → okV ρ u' = true → LR (c.inner ρ n0) w u' (xs.getD j Go.undef)) →
   l'.length = xs.size ∧ ∀ (j : Nat) (u : LV),l'[j]? = some u → LR (c.inner ρ n0) w u (xs.getD j Go.undef) := by
  intro l' xs h1 h2 h3
  refine ⟨by rw [renVs_length] at h1; exact h1,fun j u hu => ?_⟩
  exact h3 j (renV ρ n0 n u) (by rw [renVs_get,hu]; rfl) rfl (okVs_mem h2 u (List.mem_of_getElem? hu))
 induction h with
 | p v x hv =>
  intro u hu hok
  cases u with
  | ptr b o => obtain ⟨b',_,h2⟩ := ptrNo hu hok; cases h2
  | sl b e sz o k => obtain ⟨b',_,h2⟩ := slNo hu hok; cases h2
  | mp b => obtain ⟨b',_,h2⟩ := mpNo hu hok; cases h2
  | sla b o n => cases hok
  | p v' => rw [renV] at hu; cases hu; exact .p _ _ (hv.congr fun r => (inner_mut r).symm)
  | _ => rw [renV] at hu; cases hu
 | ptr b o r k hm ho =>
  intro u hu hok
  cases u with
  | ptr b1 o1 => obtain ⟨b',h1,h2⟩ := ptrNo hu hok; cases h2; exact .ptr _ _ r k ((inner_m h1).trans hm) ho
  | sl b e sz o k => obtain ⟨b',_,h2⟩ := slNo hu hok; cases h2
  | mp b => obtain ⟨b',_,h2⟩ := mpNo hu hok; cases h2
  | sla b o n => cases hok
  | _ => rw [renV] at hu; cases hu
 | goneP b o a hm hb =>
  intro u hu hok
  cases u with
  | ptr b1 o1 => obtain ⟨b',h1,h2⟩ := ptrNo hu hok; cases h2; exact .goneP _ _ a ((inner_m h1).trans hm) (hF.lo _ _ h1)
  | sl b e sz o k => obtain ⟨b',_,h2⟩ := slNo hu hok; cases h2
  | mp b => obtain ⟨b',_,h2⟩ := mpNo hu hok; cases h2
  | sla b o n => cases hok
  | _ => rw [renV] at hu; cases hu
 | sl b e sz o n r j k cp tot hm ho hn hk hc hs ht =>
  intro u hu hok
  cases u with
  | ptr b1 o1 => obtain ⟨b',h1,h2⟩ := ptrNo hu hok; cases h2
  | sl b1 e1 sz1 o1 k1 => obtain ⟨b',h1,h2⟩ := slNo hu hok; cases h2; exact .sl _ _ _ _ _ r j k cp tot ((inner_m h1).trans hm) ho hn hk hc hs ht
  | mp b => obtain ⟨b',_,h2⟩ := mpNo hu hok; cases h2
  | sla b o n => cases hok
  | _ => rw [renV] at hu; cases hu
 | slv b e sz o n hm ho hn =>
  intro u hu hok
  cases u with
  | ptr b1 o1 => obtain ⟨b',h1,h2⟩ := ptrNo hu hok; cases h2
  | sl b1 e1 sz1 o1 k1 => obtain ⟨b',h1,h2⟩ := slNo hu hok; cases h2; exact .slv _ _ _ _ _ ((inner_m h1).trans hm) ho hn
  | mp b => obtain ⟨b',_,h2⟩ := mpNo hu hok; cases h2
  | sla b o n => cases hok
  | _ => rw [renV] at hu; cases hu
 | slz b e sz o n a r tot hm ho hn hs h0 =>
  intro u hu hok
  cases u with
  | ptr b1 o1 => obtain ⟨b',h1,h2⟩ := ptrNo hu hok; cases h2
  | sl b1 e1 sz1 o1 k1 => obtain ⟨b',h1,h2⟩ := slNo hu hok; cases h2; exact .slz _ _ _ _ _ a r tot ((inner_m h1).trans hm) ho hn hs h0
  | mp b => obtain ⟨b',_,h2⟩ := mpNo hu hok; cases h2
  | sla b o n => cases hok
  | _ => rw [renV] at hu; cases hu
 | goneS b e sz o n a k cp hm hb =>
  intro u hu hok
  cases u with
  | ptr b1 o1 => obtain ⟨b',h1,h2⟩ := ptrNo hu hok; cases h2
  | sl b1 e1 sz1 o1 k1 => obtain ⟨b',h1,h2⟩ := slNo hu hok; cases h2; exact .goneS _ _ _ _ _ a k cp ((inner_m h1).trans hm) (hF.lo _ _ h1)
  | mp b => obtain ⟨b',_,h2⟩ := mpNo hu hok; cases h2
  | sla b o n => cases hok
  | _ => rw [renV] at hu; cases hu
 | sla b o n r j k cp hm ho hn hk hc =>
  intro u hu hok
  cases u with
  | ptr b1 o1 => obtain ⟨b',h1,h2⟩ := ptrNo hu hok; cases h2
  | sl b e sz o k => obtain ⟨b',_,h2⟩ := slNo hu hok; cases h2
  | mp b2 => obtain ⟨b',h1,h2⟩ := mpNo hu hok; cases h2
  | sla b2 o2 n2 => cases hok
  | _ => rw [renV] at hu; cases hu
 | goneA b o n x hm hb =>
  intro u hu hok
  cases u with
  | ptr b1 o1 => obtain ⟨b',h1,h2⟩ := ptrNo hu hok; cases h2
  | sl b e sz o k => obtain ⟨b',_,h2⟩ := slNo hu hok; cases h2
  | mp b2 => obtain ⟨b',h1,h2⟩ := mpNo hu hok; cases h2
  | sla b2 o2 n2 => cases hok
  | _ => rw [renV] at hu; cases hu
 | mp b r hm =>
  intro u hu hok
  cases u with
  | ptr b1 o1 => obtain ⟨b',h1,h2⟩ := ptrNo hu hok; cases h2
  | sl b e sz o k => obtain ⟨b',_,h2⟩ := slNo hu hok; cases h2
  | mp b2 => obtain ⟨b',h1,h2⟩ := mpNo hu hok; cases h2; exact .mp _ r ((inner_m h1).trans hm)
  | sla b2 o2 n2 => cases hok
  | _ => rw [renV] at hu; cases hu
 | goneM b x hm hb =>
  intro u hu hok
  cases u with
  | ptr b1 o1 => obtain ⟨b',h1,h2⟩ := ptrNo hu hok; cases h2
  | sl b e sz o k => obtain ⟨b',_,h2⟩ := slNo hu hok; cases h2
  | mp b2 => obtain ⟨b',h1,h2⟩ := mpNo hu hok; cases h2; exact .goneM _ x ((inner_m h1).trans hm) (hF.lo _ _ h1)
  | sla b2 o2 n2 => cases hok
  | _ => rw [renV] at hu; cases hu
 | agg l x hl hrel ih =>
  intro u hu hok
  cases u with
  | ptr b1 o1 => obtain ⟨b',h1,h2⟩ := ptrNo hu hok; cases h2
  | sl b e sz o k => obtain ⟨b',_,h2⟩ := slNo hu hok; cases h2
  | mp b => obtain ⟨b',_,h2⟩ := mpNo hu hok; cases h2
  | sla b o n => cases hok
  | agg l' => rw [renV] at hu; cases hu; obtain ⟨h1,h2⟩ := lists hl hok ih; exact .agg _ _ h1 h2
  | _ => rw [renV] at hu; cases hu
 | tup l x hl hrel ih =>
  intro u hu hok
  cases u with
  | ptr b1 o1 => obtain ⟨b',h1,h2⟩ := ptrNo hu hok; cases h2
  | sl b e sz o k => obtain ⟨b',_,h2⟩ := slNo hu hok; cases h2
  | mp b => obtain ⟨b',_,h2⟩ := mpNo hu hok; cases h2
  | sla b o n => cases hok
  | tup l' => rw [renV] at hu; cases hu; obtain ⟨h1,h2⟩ := lists hl hok ih; exact .tup _ _ h1 h2
  | _ => rw [renV] at hu; cases hu
 | iface t v x hv ih =>
  intro u hu hok
  cases u with
  | ptr b1 o1 => obtain ⟨b',h1,h2⟩ := ptrNo hu hok; cases h2
  | sl b e sz o k => obtain ⟨b',_,h2⟩ := slNo hu hok; cases h2
  | mp b => obtain ⟨b',_,h2⟩ := mpNo hu hok; cases h2
  | sla b o n => cases hok
  | iface t' v' => rw [renV] at hu; cases hu; exact .iface _ _ _ (ih rfl hok)
  | _ => rw [renV] at hu; cases hu
 | fn f l x hl hrel ih =>
  intro u hu hok
  cases u with
  | ptr b1 o1 => obtain ⟨b',h1,h2⟩ := ptrNo hu hok; cases h2
  | sl b e sz o k => obtain ⟨b',_,h2⟩ := slNo hu hok; cases h2
  | mp b => obtain ⟨b',_,h2⟩ := mpNo hu hok; cases h2
  | sla b o n => cases hok
  | fn f' l' => rw [renV] at hu; cases hu; obtain ⟨h1,h2⟩ := lists hl hok ih; exact .fn _ _ _ h1 h2
  | _ => rw [renV] at hu; cases hu
 | nul =>
  intro u hu hok
  cases u with
  | ptr b1 o1 => obtain ⟨b',h1,h2⟩ := ptrNo hu hok; cases h2
  | sl b e sz o k => obtain ⟨b',_,h2⟩ := slNo hu hok; cases h2
  | mp b => obtain ⟨b',_,h2⟩ := mpNo hu hok; cases h2
  | sla b o n => cases hok
  | nul => exact .nul
  | _ => rw [renV] at hu; cases hu
 | undef x =>
  intro u hu hok
  cases u with
  | ptr b1 o1 => obtain ⟨b',h1,h2⟩ := ptrNo hu hok; cases h2
  | sl b e sz o k => obtain ⟨b',_,h2⟩ := slNo hu hok; cases h2
  | mp b => obtain ⟨b',_,h2⟩ := mpNo hu hok; cases h2
  | sla b o n => cases hok
  | undef => exact .undef _
  | _ => rw [renV] at hu; cases hu
def Ctx.outer (c c0 : Ctx) (ρ : List (Nat × Nat)) (n0 n : Nat) : Ctx :=
 {
  m := fun b => match nback ρ b with
   | some a => c0.m a
   | none => if b < n then c.m b else c0.m (b - n + n0)
  X := c.X
  N := n + (c0.N - n0) }
variable {c0 : Ctx} {w' : World}
theorem outer_rn (hF : FOK n0 n ρ) {a b : Nat} (h : rn ρ n0 n a = some b) : (c.outer c0 ρ n0 n).m b = c0.m a := by
 show (match nback ρ b with | some a => c0.m a | none => if b < n then c.m b else c0.m (b - n + n0)) = _
 unfold rn at h
 cases e : nget ρ a with
 | some b' =>
  rw [e] at h; cases h
  rw [(hF.iff a b).1 e]
 | none =>
  rw [e] at h
  dsimp only at h
  cases e2 : Nat.blt a n0 with
  | true => rw [e2] at h; cases h
  | false =>
   rw [e2] at h; cases h
   have ha : n0 ≤ a := by
    rcases Nat.lt_or_ge a n0 with h1 | h1
    ·have : Nat.blt a n0 = true := by simpa using h1
     rw [this] at e2; cases e2
    ·exact h1
   cases e3 : nback ρ (a - n0 + n) with
   | some d => have := hF.hi d _ ((hF.iff _ _).2 e3); omega
   | none =>
    dsimp only
    rw [if_neg (by omega)]
    congr 1; omega
theorem outer_old (hF : FOK n0 n ρ) {b : Nat} (h : nback ρ b = none) (hb : b < n) : (c.outer c0 ρ n0 n).m b = c.m b := by
 show (match nback ρ b with | some a => c0.m a | none => if b < n then c.m b else c0.m (b - n + n0)) = _
 rw [h]; exact if_pos hb
theorem outer_cases (hF : FOK n0 n ρ) (b : Nat) : (∃ a,rn ρ n0 n a = some b ∧ (c.outer c0 ρ n0 n).m b = c0.m a) ∨ (nback ρ b = none ∧ b < n ∧ (c.outer c0 ρ n0 n).m b = c.m b) := by
 cases e : nback ρ b with
 | some a => exact .inl ⟨a,rn_dom ((hF.iff a b).2 e),outer_rn hF (rn_dom ((hF.iff a b).2 e))⟩
 | none =>
  rcases Nat.lt_or_ge b n with h | h
  ·exact .inr ⟨rfl,h,outer_old hF e h⟩
  ·left
   have hr : rn ρ n0 n (b - n + n0) = some b := by
    unfold rn
    cases e2 : nget ρ (b - n + n0) with
    | some b' => have := hF.lo _ _ e2; omega
    | none =>
     have : Nat.blt (b - n + n0) n0 = false := by
      cases e3 : Nat.blt (b - n + n0) n0 with
      | false => rfl
      | true =>
           have : b - n + n0 < n0 := by simpa using e3
           omega
     rw [this]
     show some (b - n + n0 - n0 + n) = some b
     congr 1; omega
   exact ⟨_,hr,outer_rn hF hr⟩
theorem rn_lt (hF : FOK n0 n ρ) {a b N : Nat} (h : rn ρ n0 n a = some b) (ha : a < N) : b < n + (N - n0) := by
 unfold rn at h
 cases e : nget ρ a with
 | some b' => rw [e] at h; cases h; have := hF.hi _ _ e; omega
 | none =>
  rw [e] at h
  dsimp only at h
  cases e2 : Nat.blt a n0 with
  | true => rw [e2] at h; cases h
  | false =>
   rw [e2] at h; cases h
   have ha : n0 ≤ a := by
    rcases Nat.lt_or_ge a n0 with h1 | h1
    ·have : Nat.blt a n0 = true := by simpa using h1
     rw [this] at e2; cases e2
    ·exact h1
   omega
theorem hget_happ : ∀ (x y : LH) (b : Nat),hget (happ x y) b = match hget x b with | some B => some B | none => hget y b
 | [],y,b => rfl
 | (a,A) :: x,y,b => by
  rw [happ,hget_cons,hget_cons,hget_happ x y b]
  by_cases e : a = b
  ·rw [if_pos e,if_pos e]
  ·rw [if_neg e,if_neg e]
theorem hget_renH (hF : FOK n0 n ρ) : ∀ (l : LH) (b : Nat) (B : LB),hget (renH ρ n0 n l) b = some B → ∃ a A,rn ρ n0 n a = some b ∧ hget l a = some A ∧ B = renB ρ n0 n A
 | [],b,B,h => by cases h
 | (a,A) :: l,b,B,h => by
  rw [renH] at h
  have tail : hget (renH ρ n0 n l) b = some B → rn ρ n0 n a ≠ some b → ∃ a' A',rn ρ n0 n a' = some b ∧ hget ((a,A) :: l) a' = some A' ∧ B = renB ρ n0 n A' := by
   intro h1 h2
   obtain ⟨a',A',k1,k2,k3⟩ := hget_renH hF l b B h1
   refine ⟨a',A',k1,?_,k3⟩
   rw [hget_cons,if_neg (by rintro rfl; exact h2 k1)]; exact k2
  cases e : rn ρ n0 n a with
  | none => rw [e] at h; exact tail h (by rw [e]; intro h; cases h)
  | some b' =>
   rw [e] at h
   dsimp only at h
   rw [hget_cons] at h
   by_cases e2 : b' = b
   ·rw [if_pos e2] at h; cases h
    exact ⟨a,A,by rw [e,e2],by rw [hget_cons,if_pos rfl],rfl⟩
   ·rw [if_neg e2] at h
    exact tail h (by rw [e]; intro h; cases h; exact e2 rfl)
theorem hget_hdels : ∀ (ρ : List (Nat × Nat)) (h : LH) (b : Nat) (B : LB),hget (hdels ρ h) b = some B → nback ρ b = none ∧ hget h b = some B
 | [],h,b,B,hb => ⟨rfl,hb⟩
 | (x,y) :: ρ,h,b,B,hb => by
  rw [hdels,hget_del] at hb
  split at hb
  ·cases hb
  ·rename_i e
   obtain ⟨h1,h2⟩ := hget_hdels ρ h b B hb
   exact ⟨by rw [nback_cons,if_neg (fun h => e h.symm)]; exact h1,h2⟩
variable {h : LH}
theorem outer_mut (hF : FOK n0 n ρ) (hr : HR c w h) (hN : c.N = n) (he : Ext (c.inner ρ n0) w c0 w') (hn0 : n0 ≤ c0.N) (r : Nat) : (c.outer c0 ρ n0 n).mut r ↔ c0.mut r := by
 have hX : c0.X = (c.inner ρ n0).X := he.X
 constructor
 ·rintro (h1 | ⟨b,hb⟩)
  ·exact .inl (by rw [hX]; exact .inl h1)
  ·rcases outer_cases (c := c) (c0 := c0) hF b with ⟨a,h1,h2⟩ | ⟨h1,h2,h3⟩
   ·exact .inr ⟨a,by rw [← h2]; exact hb⟩
   ·rw [h3] at hb
    have hnf : ¬ foot c ρ r := by
     rintro ⟨a',b',k1,k2⟩
     have := hr.inj b b' r hb k2
     subst this
     rw [(hF.iff a' b).1 k1] at h1; cases h1
    exact .inl (by rw [hX]; exact .inr ⟨⟨b,hb⟩,hnf⟩)
 ·rintro (h1 | ⟨a,ha⟩)
  ·rw [hX] at h1
   rcases h1 with h1 | ⟨⟨b,hb⟩,h2⟩
   ·exact .inl h1
   ·have hnb : nback ρ b = none := by
     cases e : nback ρ b with
     | none => rfl
     | some a => exact (h2 ⟨a,b,(hF.iff a b).2 e,hb⟩).elim
    exact .inr ⟨b,(outer_old hF hnb (by have := live_lt hr.fresh hb; omega)).trans hb⟩
  ·have hex : ∃ b,rn ρ n0 n a = some b := by
    rcases Nat.lt_or_ge a n0 with h1 | h1
    ·rcases he.old a h1 with e | e
     ·have e2 : (c.inner ρ n0).m a = some (some r) := e ▸ ha
      have e2 : (match nget ρ a with | some b' => c.m b' | none => none) = some (some r) := e2
      cases e3 : nget ρ a with
      | some b => exact ⟨b,rn_dom e3⟩
      | none => rw [e3] at e2; cases e2
     ·rw [e] at ha; cases ha
    ·unfold rn
     cases e3 : nget ρ a with
     | some b => exact ⟨b,rfl⟩
     | none =>
      have : Nat.blt a n0 = false := by
       cases e4 : Nat.blt a n0 with
       | false => rfl
       | true =>
            have : a < n0 := by simpa using e4
            omega
      rw [this]; exact ⟨_,rfl⟩
   obtain ⟨b,hb⟩ := hex
   exact .inr ⟨b,(outer_rn hF hb).trans ha⟩
theorem LR.outof (hF : FOK n0 n ρ) (hr : HR c w h) (hN : c.N = n) (he : Ext (c.inner ρ n0) w c0 w') (hn0 : n0 ≤ c0.N) {u : LV} {x : Value} (hu : LR c0 w' u x) : LR (c.outer c0 ρ n0 n) w' (renV ρ n0 n u) x := by
 have lists : ∀ {l : List LV} {xs : Array Value},l.length = xs.size → (∀ (j : Nat) (u : LV),l[j]? = some u → LR (c.outer c0 ρ n0 n) w' (renV ρ n0 n u) (xs.getD j Go.undef)) → (renVs ρ n0 n l).length = xs.size ∧ ∀ (j : Nat) (u : LV),(renVs ρ n0 n l)[j]? = some u → LR (c.outer c0 ρ n0 n) w' u (xs.getD j Go.undef) := by
  intro l xs h1 h2
  refine ⟨by rw [renVs_length]; exact h1,fun j u hu => ?_⟩
  rw [renVs_get] at hu
  cases e : l[j]? with
  | none => rw [e] at hu; cases hu
  | some v => rw [e] at hu; cases hu; exact h2 j v e
 induction hu with
 | p v x hv => exact .p _ _ (hv.congr fun r => (outer_mut hF hr hN he hn0 r).symm)
 | ptr b o r k hm ho =>
  rw [renV]
  cases e : rn ρ n0 n b with
  | none => exact .undef _
  | some b' => exact .ptr _ _ r k ((outer_rn hF e).trans hm) ho
 | goneP b o a hm hb =>
  rw [renV]
  cases e : rn ρ n0 n b with
  | none => exact .undef _
  | some b' => exact .goneP _ _ a ((outer_rn hF e).trans hm) (rn_lt hF e hb)
 | sl b e sz o n r j k cp tot hm ho hn hk hc hs ht =>
  rw [renV]
  cases e : rn ρ n0 _ b with
  | none => exact .undef _
  | some b' => exact .sl _ _ _ _ _ r j k cp tot ((outer_rn hF e).trans hm) ho hn hk hc hs ht
 | slv b e sz o n hm ho hn =>
  rw [renV]
  cases e : rn ρ n0 _ b with
  | none => exact .undef _
  | some b' => exact .slv _ _ _ _ _ ((outer_rn hF e).trans hm) ho hn
 | slz b e sz o n a r tot hm ho hn hs h0 =>
  rw [renV]
  cases e : rn ρ n0 _ b with
  | none => exact .undef _
  | some b' => exact .slz _ _ _ _ _ a r tot ((outer_rn hF e).trans hm) ho hn hs h0
 | goneS b e sz o n a k cp hm hb =>
  rw [renV]
  cases e : rn ρ n0 _ b with
  | none => exact .undef _
  | some b' => exact .goneS _ _ _ _ _ a k cp ((outer_rn hF e).trans hm) (rn_lt hF e hb)
 | sla b o n r j k cp hm ho hn hk hc => rw [renV]; exact .undef _
 | goneA b o n x hm hb => rw [renV]; exact .undef _
 | mp b r hm =>
  rw [renV]
  cases e : rn ρ n0 n b with
  | none => exact .undef _
  | some b' => exact .mp _ r ((outer_rn hF e).trans hm)
 | goneM b x hm hb =>
  rw [renV]
  cases e : rn ρ n0 n b with
  | none => exact .undef _
  | some b' => exact .goneM _ x ((outer_rn hF e).trans hm) (rn_lt hF e hb)
 | agg l x hl hrel ih => rw [renV]; obtain ⟨h1,h2⟩ := lists hl ih; exact .agg _ _ h1 h2
 | tup l x hl hrel ih => rw [renV]; obtain ⟨h1,h2⟩ := lists hl ih; exact .tup _ _ h1 h2
 | iface t v x hv ih => rw [renV]; exact .iface _ _ _ ih
 | fn f l x hl hrel ih => rw [renV]; obtain ⟨h1,h2⟩ := lists hl ih; exact .fn _ _ _ h1 h2
 | nul => rw [renV]; exact .nul
 | undef x => rw [renV]; exact .undef _
theorem BR.outof (hF : FOK n0 n ρ) (hr : HR c w h) (hN : c.N = n) (he : Ext (c.inner ρ n0) w c0 w') (hn0 : n0 ≤ c0.N) {B : LB} {m : Option Nat} (hB : BR c0 w' B m) : BR (c.outer c0 ρ n0 n) w' (renB ρ n0 n B) m := by
 cases B with
 | pure sy l =>
  cases m with
  | none => exact hB
  | some r =>
   obtain ⟨cur,ty,h1,h2,h3⟩ := hB
   exact ⟨cur,ty,h1,h2,fun j u hu => (h3 j u hu).congr fun r => (outer_mut hF hr hN he hn0 r).symm⟩
 | mix l =>
  cases m with
  | none => have : l = [] := hB; subst this; rfl
  | some r =>
   obtain ⟨cur,ty,h1,h2,h3⟩ := hB
   refine ⟨cur,ty,h1,by rw [renVs_length]; exact h2,fun j u hu => ?_⟩
   rw [renVs_get] at hu
   cases e : l[j]? with
   | none => rw [e] at hu; cases hu
   | some v => rw [e] at hu; cases hu; exact (h3 j v e).outof hF hr hN he hn0
 | iter s p => cases m <;> exact hB
 | set l => cases m <;> exact hB
 | kv l vs => cases m <;> exact hB
 | frz l =>
  cases m with
  | none => exact hB
  | some r =>
   obtain ⟨cur,ty,fr,h1,h2,h3⟩ := hB
   exact ⟨cur,ty,fr,h1,h2,fun j u hu => (h3 j u hu).congr fun r => (outer_mut hF hr hN he hn0 r).symm⟩
 | bld t l =>
  cases m with
  | none => exact hB
  | some r =>
   obtain ⟨cur,h1,h2,h0,h3⟩ := hB
   refine ⟨cur,h1,by rw [renVs_length]; exact h2,h0,fun j u hu => ?_⟩
   rw [renVs_get] at hu
   cases e : l[j]? with
   | none => rw [e] at hu; cases hu
   | some v => rw [e] at hu; cases hu; exact (h3 j v e).outof hF hr hN he hn0
 | fix g o =>
  cases m with
  | some r => exact hB
  | none => exact ⟨hB.1,fun h => hB.2 ((outer_mut hF hr hN he hn0 g).1 h)⟩
theorem hmapOk_get : ∀ {h0 : LH},hmapOk ρ n0 n h h0 → ∀ a A,hget h0 a = some A → ∃ b,nget ρ a = some b ∧ hget h b = some (renB ρ n0 n A) ∧ okB ρ A = true
 | [],_,a,A,ha => by cases ha
 | (d,D) :: h0,hm,a,A,ha => by
  rw [hget_cons] at ha
  by_cases e : d = a
  ·rw [if_pos e] at ha; cases ha
   subst e
   have h1 := hm.1
   cases e2 : nget ρ d with
   | none => rw [e2] at h1; exact h1.elim
   | some b => rw [e2] at h1; exact ⟨b,rfl,h1,hm.2.1⟩
  ·rw [if_neg e] at ha; exact hmapOk_get hm.2.2 a A ha
theorem callF_frame {P : Unit → Program} {f : Nat} {args0 args : List LV} {h0 : LH} {K0 K : LV → LH → Nat → Prop} (hc : CallF P f args0 h0 n0 K0) (ρ : List (Nat × Nat)) (hF : fok n0 n ρ = true) (hm : hmapOk ρ n0 n h h0) (ha : args = renVs ρ n0 n args0) (hok : okVs ρ args0 = true)
  (hK : ∀ r h' n',K0 r h' n' → K (renV ρ n0 n r) (frameH ρ n0 n h h') (n + (n' - n0))) : CallF P f args h n K := by
 subst ha
 have hF := fok_ok hF
 cases hc with
 | mk h1 h2 =>
  refine .mk h1 fun c w xs hr hN hl hrel => ?_
  have hri : HR (c.inner ρ n0) w h0 := by
   refine ⟨fun a A ha => ?_,fun a ha => ?_,fun a a' r e1 e2 => ?_,fun a r e1 hx => ?_,fun r hx => ?_,fun a r e1 => ?_⟩
   ·obtain ⟨b,k1,k2,k3⟩ := hmapOk_get hm a A ha
    obtain ⟨m,k4,k5⟩ := hr.live b _ k2
    refine ⟨m,(inner_m k1).trans k4,?_⟩
    cases A with
    | pure sy l =>
     cases m with
     | none => exact k5
     | some r => obtain ⟨cur,ty,g1,g2,g3⟩ := k5; exact ⟨cur,ty,g1,g2,fun j u hu => (g3 j u hu).congr fun r => (inner_mut r).symm⟩
    | mix l =>
     cases m with
     | none =>
      have : renVs ρ n0 n l = [] := k5
      cases l with
      | nil => rfl
      | cons x l => cases this
     | some r =>
      obtain ⟨cur,ty,g1,g2,g3⟩ := k5
      rw [renVs_length] at g2
      exact ⟨cur,ty,g1,g2,fun j u hu => (g3 j (renV ρ n0 n u) (by rw [renVs_get,hu]; rfl)).into hF rfl (okVs_mem k3 u (List.mem_of_getElem? hu))⟩
    | iter s p => cases m <;> exact k5
    | set l => cases m <;> exact k5
    | kv l vs => cases m <;> exact k5
    | frz l =>
     cases m with
     | none => exact k5
     | some r => obtain ⟨cur,ty,fr,g1,g2,g3⟩ := k5; exact ⟨cur,ty,fr,g1,g2,fun j u hu => (g3 j u hu).congr fun r => (inner_mut r).symm⟩
    | bld t l =>
     cases m with
     | none => exact k5
     | some r =>
      obtain ⟨cur,g1,g2,g0,g3⟩ := k5
      rw [renVs_length] at g2
      exact ⟨cur,g1,g2,g0,fun j u hu => (g3 j (renV ρ n0 n u) (by rw [renVs_get,hu]; rfl)).into hF rfl (okVs_mem k3 u (List.mem_of_getElem? hu))⟩
    | fix g o =>
     cases m with
     | some r => exact k5
     | none => exact ⟨k5.1,fun h => k5.2 ((inner_mut g).1 h)⟩
   ·have ha : n0 ≤ a := ha
    show (match nget ρ a with | some b' => c.m b' | none => none) = none
    cases e : nget ρ a with
    | none => rfl
    | some b => have := hF.lo a b e; omega
   ·obtain ⟨b,hb⟩ : ∃ b,nget ρ a = some b := by
     have e1 : (match nget ρ a with | some b' => c.m b' | none => none) = some (some r) := e1
     cases e : nget ρ a with
     | none => rw [e] at e1; cases e1
     | some b => exact ⟨b,rfl⟩
    obtain ⟨b',hb'⟩ : ∃ b,nget ρ a' = some b := by
     have e2 : (match nget ρ a' with | some b' => c.m b' | none => none) = some (some r) := e2
     cases e : nget ρ a' with
     | none => rw [e] at e2; cases e2
     | some b => exact ⟨b,rfl⟩
    rw [inner_m hb] at e1
    rw [inner_m hb'] at e2
    have := hr.inj b b' r e1 e2
    subst this
    have k1 := (hF.iff a b).1 hb
    rw [(hF.iff a' b).1 hb'] at k1
    cases k1; rfl
   ·obtain ⟨a',b,k1,k2⟩ := (inner_own r).1 ⟨a,e1⟩
    rcases hx with hx | ⟨_,hx⟩
    ·exact hr.noX b r k2 hx
    ·exact hx ⟨a',b,k1,k2⟩
   ·rcases hx with hx | ⟨⟨b,hb⟩,_⟩
    ·exact hr.ltX r hx
    ·exact hr.lt b r hb
   ·obtain ⟨a',b,k1,k2⟩ := (inner_own r).1 ⟨a,e1⟩
    exact hr.lt b r k2
  rw [renVs_length] at hl
  refine (h2 (c.inner ρ n0) w xs hri rfl hl (fun i u hu => (hrel i (renV ρ n0 n u) (by rw [renVs_get,hu]; rfl)).into hF rfl (okVs_mem hok u (List.mem_of_getElem? hu)))).mono fun e w' hh => ?_
  obtain ⟨c0,r,v,h0',n0',rfl,hKr,hr0,hn0',hv,he⟩ := hh
  have hn0 : n0 ≤ c0.N := he.N
  have hmut := outer_mut hF hr hN he hn0
  have frame : ∀ b r,nback ρ b = none → c.m b = some (some r) → w'.heap[r]? = w.heap[r]? ∧ c0.X r := by
   intro b r k1 k2
   have hnf : ¬ foot c ρ r := by
    rintro ⟨a',b',k3,k4⟩
    have := hr.inj b b' r k2 k4
    subst this
    rw [(hF.iff a' b).1 k3] at k1; cases k1
   refine ⟨he.same r (hr.lt b r k2) (fun h => hnf ((inner_own r).1 h)),?_⟩
   rw [he.X]
   exact .inr ⟨⟨b,k2⟩,hnf⟩
  have hext : Ext c w (c.outer c0 ρ n0 n) w' := by
   refine ⟨he.os,he.tape,he.output,he.size,rfl,by show c.N ≤ n + (c0.N - n0); omega,fun b hb => ?_,fun b r hb hbm => ?_,fun r hlt hno => he.same r hlt fun h => hno ?_,fun b r hb hbm => ?_⟩
   ·cases e : nback ρ b with
    | none => exact .inl (outer_old hF e (by omega))
    | some a =>
     have k1 := (hF.iff a b).2 e
     rw [outer_rn hF (rn_dom k1)]
     rcases he.old a (hF.lo a b k1) with k2 | k2
     ·exact .inl (k2.trans (inner_m k1))
     ·exact .inr k2
   ·rcases outer_cases (c := c) (c0 := c0) hF b with ⟨a,k1,k2⟩ | ⟨k1,k2,k3⟩
    ·rw [k2] at hbm
     rcases Nat.lt_or_ge a n0 with k4 | k4
     ·rcases he.old a k4 with e | e
      ·rw [e] at hbm
       obtain ⟨a',b',g1,g2⟩ := (inner_own r).1 ⟨a,hbm⟩
       exact .inr ⟨b',g2⟩
      ·rw [e] at hbm; cases hbm
     ·rcases he.new a r k4 hbm with g | g
      ·exact .inl g
      ·obtain ⟨a',b',g1,g2⟩ := (inner_own r).1 g
       exact .inr ⟨b',g2⟩
    ·omega
   ·obtain ⟨a',b',g1,g2⟩ := (inner_own r).1 h
    exact ⟨b',g2⟩
   ·cases e : nback ρ b with
    | none =>
     rw [outer_old hF e (by omega)] at hbm
     simp only [World.shape?,(frame b r e hbm).1]
    | some a =>
     have k1 := (hF.iff a b).2 e
     rw [outer_rn hF (rn_dom k1)] at hbm
     exact he.shape a r (hF.lo a b k1) hbm
  refine ⟨c.outer c0 ρ n0 n,_,v,_,_,rfl,hK r h0' n0' hKr,⟨fun b B hb => ?_,fun b hb => ?_,fun b b' r e1 e2 => ?_,fun b r e1 hx => ?_,fun r hx => ?_,fun b r e1 => ?_⟩,by show n + (c0.N - n0) = _; rw [hn0'],hv.outof hF hr hN he hn0,hext⟩
  ·rw [frameH,hget_happ] at hb
   cases e : hget (renH ρ n0 n h0') b with
   | some B' =>
    rw [e] at hb; cases hb
    obtain ⟨a,A,k1,k2,rfl⟩ := hget_renH hF h0' b _ e
    obtain ⟨m,k3,k4⟩ := hr0.live a A k2
    exact ⟨m,(outer_rn hF k1).trans k3,k4.outof hF hr hN he hn0⟩
   | none =>
    rw [e] at hb
    obtain ⟨k1,k2⟩ := hget_hdels ρ h b B hb
    obtain ⟨m,k3,k4⟩ := hr.live b B k2
    exact ⟨m,(outer_old hF k1 (by have := live_lt hr.fresh k3; omega)).trans k3,k4.ext hr.fresh hext fun r hmr => (frame b r k1 (by rw [k3,hmr])).1⟩
  ·have hb : n + (c0.N - n0) ≤ b := hb
   rcases outer_cases (c := c) (c0 := c0) hF b with ⟨a,k1,k2⟩ | ⟨k1,k2,k3⟩
   ·rw [k2]
    refine hr0.fresh a ?_
    rcases Nat.lt_or_ge a c0.N with g | g
    ·have := rn_lt hF k1 g; omega
    ·exact g
   ·omega
  ·rcases outer_cases (c := c) (c0 := c0) hF b with ⟨a,k1,k2⟩ | ⟨k1,k2,k3⟩ <;> rcases outer_cases (c := c) (c0 := c0) hF b' with ⟨a',g1,g2⟩ | ⟨g1,g2,g3⟩
   ·rw [k2] at e1; rw [g2] at e2
    have := hr0.inj a a' r e1 e2
    subst this
    rw [k1] at g1; cases g1; rfl
   ·rw [k2] at e1; rw [g3] at e2
    exact absurd (frame b' r g1 e2).2 (hr0.noX a r e1)
   ·rw [k3] at e1; rw [g2] at e2
    exact absurd (frame b r k1 e1).2 (hr0.noX a' r e2)
   ·rw [k3] at e1; rw [g3] at e2
    exact hr.inj b b' r e1 e2
  ·have hx : c.X r := hx
   rcases outer_cases (c := c) (c0 := c0) hF b with ⟨a,k1,k2⟩ | ⟨k1,k2,k3⟩
   ·rw [k2] at e1
    exact hr0.noX a r e1 (by rw [he.X]; exact .inl hx)
   ·rw [k3] at e1
    exact hr.noX b r e1 hx
  ·exact Nat.lt_of_lt_of_le (hr.ltX r hx) he.size
  ·rcases outer_cases (c := c) (c0 := c0) hF b with ⟨a,k1,k2⟩ | ⟨k1,k2,k3⟩
   ·rw [k2] at e1; exact hr0.lt a r e1
   ·rw [k3] at e1; exact Nat.lt_of_lt_of_le (hr.lt b r e1) he.size
end
theorem cfr {P : Unit → Program} {f : Nat} {args0 args : List LV} {h0 h : LH} {n0 n : Nat} {K0 K : LV → LH → Nat → Prop} (hc : CallF P f args0 h0 n0 K0) (ρ : List (Nat × Nat)) (hK : ∀ r h' n',K0 r h' n' → K (renV ρ n0 n r) (frameH ρ n0 n h h') (n + (n' - n0)))
    (hF : fok n0 n ρ = true := by rfl) (hm : hmapOk ρ n0 n h h0 := by simp [hmapOk,nget,hget,renB,okB,renV,renVs,rn,okVs,okV]) (ha : args = renVs ρ n0 n args0 := by rfl) (hok : okVs ρ args0 = true := by rfl) : CallF P f args h n K := callF_frame hc ρ hF hm ha hok hK
end Go.LX
namespace Go.LX
open Go
set_option maxHeartbeats 32000000
def isA (o : Oper) : Bool :=
 match o.op with
 | .move _ => true
 | .assign _ => true
 | .pick _ _ _ => true
 | .binOp _ _ _ _ _ => true
 | .nilCheck _ => true
 | .load _ _ => true
 | .fieldAddr _ _ _ => true
 | .field _ _ _ => true
 | .indexAddr _ _ _ => true
 | .index _ _ _ => true
 | .convert _ _ _ => true
 | .extract _ _ => true
 | .slice _ _ _ _ none => true
 | .lookup _ _ _ _ => true
 | .unOp _ _ _ => true
 | .build _ _ => true
 | .makeInterface _ _ => true
 | .call c => match c.callee with
  | .builtin .len => true
  | .builtin .max => true
  | .builtin .min => true
  | _ => false
 | _ => false
section
variable {P : Unit → Program} {T : Unit → TT} {o : Oper} {s : LS} {K : LS → Prop}
def rdN : LV → List Nat
 | .ptr b _ => [b]
 | .sl b _ _ _ _ => [b]
 | .sla b _ _ => [b]
 | .mp b => [b]
 | _ => []
def looksIn (o : Oper) : Bool :=
 match o.op with
 | .move _ => false
 | .assign _ => false
 | .pick _ _ _ => false
 | _ => true
def rds (o : Oper) (s : LS) : List Nat :=
 match looksIn o with
 | true => o.op.operands.toList.flatMap fun x => rdN (ev s x)
 | false => []
theorem rds_mem {x : Operand} {b : Nat} (hx : x ∈ o.op.operands) (hb : b ∈ rdN (ev s x)) (hl : looksIn o = true := by rfl) : b ∈ rds o s := by
 unfold rds
 rw [hl]
 exact List.mem_flatMap.2 ⟨x,by simpa using hx,hb⟩
def Agree (o : Oper) (s s' : LS) : Prop := (∀ b ∈ rds o s,hget s'.h b = hget s.h b) ∧ ∀ x ∈ o.op.operands,ev s' x = ev s x
def Gives (P : Unit → Program) (T : Unit → TT) (o : Oper) (s : LS) (u : LV) : Prop := ∀ s',Agree o s s' → ∀ K' : LS → Prop,K' (s'.put o.dst u) → lop P T o s' K'
theorem fit_x {k : IntKind} {e : Unit → Int} {L : I → Prop} (h : Fit k e L) : ∃ z,L z ∧ ∀ L' : I → Prop,L' z → Fit k e L' := by
 cases h with
 | mk h1 h2 hk => exact ⟨.sym (e ()),hk _ rfl,fun L' h => .mk h1 h2 fun z hz => hz ▸ h⟩
 | lit n h hk => exact ⟨_,hk,fun L' h' => .lit n h h'⟩
 | wrap hk => exact ⟨.sym _,hk _ rfl,fun L' h => .wrap fun z hz => hz ▸ h⟩
theorem sum_x {e : Unit → Int} {L : I → Prop} (h : Sum e L) : ∃ z,L z ∧ ∀ L' : I → Prop,L' z → Sum e L' := by
 cases h with
 | mk hk => exact ⟨.sym (e ()),hk _ rfl,fun L' h => .mk fun z hz => hz ▸ h⟩
 | lit n h hk => exact ⟨_,hk,fun L' h' => .lit n h h'⟩
theorem br_x {p : Unit → Prop} {L : Bool → Prop} (h : Br p L) : ∃ z,L z ∧ ∀ L' : Bool → Prop,L' z → Br p L' := by
 cases h with
 | mk ht hf =>
  by_cases e : p ()
  ·exact ⟨true,ht e,fun L' h => .mk (fun _ => h) fun hn => absurd e hn⟩
  ·exact ⟨false,hf e,fun L' h => .mk (fun hp => absurd hp e) fun _ => h⟩
theorem need_x {p : Unit → Prop} {L : Unit → Prop} (h : Need p L) : L () ∧ ∀ L' : Unit → Prop,L' () → Need p L' := by
 cases h with | mk h k => exact ⟨k,fun L' h' => .mk h h'⟩
theorem str_x {z : Unit → ByteArray} {L : (Unit → ByteArray) → Prop} (h : Str z L) : ∃ y,L y ∧ ∀ L' : (Unit → ByteArray) → Prop,L' y → Str z L' := by
 cases h with
 | mk k => exact ⟨fun _ => z (),k _ rfl,fun L' h => .mk fun y hy => hy ▸ h⟩
 | lit y h k => exact ⟨y,k,fun L' h' => .lit y h h'⟩
theorem cell_x {l : Unit → List PV} {i : Unit → Int} {L : PV → Prop} (h : Cell l i L) : ∃ v,L v ∧ ∀ L' : PV → Prop,L' v → Cell l i L' := by
 cases h with | mk v h k => exact ⟨v,k,fun L' h' => .mk v h h'⟩
theorem cellAt_x {sy : Bool} {l : List PV} {i : I} {j : Nat} {L : PV → Prop} (h : cellAt sy l i j L) : ∃ v,L v ∧ ∀ L' : PV → Prop,L' v → cellAt sy l i j L' := by
 cases sy with
 | true => exact cell_x h
 | false =>
  cases i with
  | sym n => exact cell_x h
  | lit n =>
   simp only [cellAt] at h ⊢
   cases e : pnth l (n.toNat + j) with
   | none => rw [e] at h; exact h.elim
   | some v => rw [e] at h; exact ⟨v,h,fun L' h' => h'⟩
theorem getP_x {sy : Bool} {l : List PV} {i : I} : ∀ (k j : Nat) {L : List LV → Prop},getP sy l i k j L → ∃ v,L v ∧ ∀ L' : List LV → Prop,L' v → getP sy l i k j L'
 | 0,j,L,h => ⟨[],h,fun L' h' => h'⟩
 | k + 1,j,L,h => by
  obtain ⟨v,h1,h2⟩ := cellAt_x h
  obtain ⟨vs,h3,h4⟩ := getP_x k (j + 1) h1
  exact ⟨.p v :: vs,h3,fun L' h' => h2 _ (h4 _ h')⟩
theorem ofCells_x {k : TK} {l : List LV} {L : LV → Prop} (h : ofCells k l L) : ∃ v,L v ∧ ∀ L' : LV → Prop,L' v → ofCells k l L' := by
 unfold ofCells at h ⊢
 cases e : k.agg with
 | true => rw [e] at h; exact ⟨_,h,fun L' h' => h'⟩
 | false =>
  rw [e] at h
  dsimp only at h ⊢
  split at h
  ·exact ⟨_,h,fun L' h' => h'⟩
  ·exact h.elim
theorem loadB_x {B : LB} {i : I} {ti : TI} {L : LV → Prop} (h : loadB B i ti L) : ∃ v,L v ∧ ∀ L' : LV → Prop,L' v → loadB B i ti L' := by
 cases B with
 | pure sy l =>
  obtain ⟨vs,h1,h2⟩ := getP_x _ _ h
  obtain ⟨v,h3,h4⟩ := ofCells_x h1
  exact ⟨v,h3,fun L' h' => h2 _ (h4 _ h')⟩
 | mix l =>
  simp only [loadB] at h ⊢
  cases i with
  | sym n =>
   cases h with
   | mk j hj h =>
    dsimp only at h ⊢
    cases e : getM l j ti.size with
    | none => rw [e] at h; exact h.elim
    | some vs => rw [e] at h; obtain ⟨v,h3,h4⟩ := ofCells_x h; exact ⟨v,h3,fun L' h' => .mk j hj (by rw [e]; exact h4 _ h')⟩
  | lit n =>
   dsimp only at h ⊢
   cases e : getM l n.toNat ti.size with
   | none => rw [e] at h; exact h.elim
   | some vs => rw [e] at h; obtain ⟨v,h3,h4⟩ := ofCells_x h; exact ⟨v,h3,h4⟩
 | iter _ _ => exact h.elim
 | set _ => exact h.elim
 | kv l vs => exact h.elim
 | frz l => exact h.elim
 | fix _ _ => exact h.elim
 | bld t l =>
  simp only [loadB] at h ⊢
  split at h
  ·rename_i n
   cases e : getM l n ti.size with
   | none => rw [e] at h; exact h.elim
   | some vs => rw [e] at h; obtain ⟨v,h3,h4⟩ := ofCells_x h; exact ⟨v,h3,h4⟩
  ·exact h.elim
theorem iadd_x {x y : I} {L : I → Prop} (h : iadd x y L) : ∃ z,L z ∧ ∀ L' : I → Prop,L' z → iadd x y L' := by
 cases x <;> cases y <;> simp only [iadd] at h ⊢
 ·exact ⟨_,h,fun L' h' => h'⟩
 ·split at h
  ·exact ⟨_,h,fun L' h' => h'⟩
  ·exact sum_x h
 ·split at h
  ·exact ⟨_,h,fun L' h' => h'⟩
  ·exact sum_x h
 ·exact sum_x h
theorem imul_x {x : I} {k : Nat} {L : I → Prop} (h : imul x k L) : ∃ z,L z ∧ ∀ L' : I → Prop,L' z → imul x k L' := by
 unfold imul at h ⊢
 split at h
 ·exact ⟨_,h,fun L' h' => h'⟩
 ·split at h
  ·exact ⟨_,h,fun L' h' => h'⟩
  ·exact sum_x h
theorem ar_x {k : IntKind} {op : BinOp} {x y : I} {L : I → Prop} (h : ar k op x y L) : ∃ z,L z ∧ ∀ L' : I → Prop,L' z → ar k op x y L' := by
 have nzx : ∀ {b : I} {M : Unit → Prop},nz b M → M () ∧ ∀ M' : Unit → Prop,M' () → nz b M' := by
  intro b M h
  cases b with
  | lit y =>
   simp only [nz] at h ⊢
   cases e : decide (y = 0) with
   | true => rw [e] at h; exact h.elim
   | false => rw [e] at h; exact ⟨h,fun M' h' => h'⟩
  | sym y => exact need_x h
 cases op <;> simp only [ar] at h ⊢ <;> try exact h.elim
 ·cases x <;> cases y <;> first | exact fit_x h | exact ⟨_,h,fun L' h' => h'⟩
 ·cases x <;> cases y <;> first | exact fit_x h | exact ⟨_,h,fun L' h' => h'⟩
 ·cases x <;> cases y <;> first | exact fit_x h | exact ⟨_,h,fun L' h' => h'⟩
 ·obtain ⟨h1,h2⟩ := nzx h
  have key : ∃ z,L z ∧ ∀ L' : I → Prop,L' z → arQuo k x y L' := by
   cases x <;> cases y <;> first | exact fit_x h1 | exact ⟨_,h1,fun L' h' => h'⟩
  obtain ⟨z,h3,h4⟩ := key
  exact ⟨z,h3,fun L' h' => h2 _ (h4 _ h')⟩
 ·obtain ⟨h1,h2⟩ := nzx h
  have key : ∃ z,L z ∧ ∀ L' : I → Prop,L' z → arRem x y L' := by
   cases x <;> cases y <;> first | exact sum_x h1 | exact ⟨_,h1,fun L' h' => h'⟩
  obtain ⟨z,h3,h4⟩ := key
  exact ⟨z,h3,fun L' h' => h2 _ (h4 _ h')⟩
 ·exact sum_x h
theorem cmp_x {op : BinOp} {x y : I} {L : Bool → Prop} (h : cmpI op x y L) : ∃ z,L z ∧ ∀ L' : Bool → Prop,L' z → cmpI op x y L' := by
 cases op <;> simp only [cmpI] at h ⊢ <;> try exact h.elim
 all_goals (cases x <;> cases y <;> first | exact br_x h | exact ⟨_,h,fun L' h' => h'⟩)
theorem bin_x {t : Nat} {k : TK} {op : BinOp} {x y : LV} {L : LV → Prop} (h : bin P t k s op x y L) : ∃ v,L v ∧ ∀ s' : LS,(∀ b ∈ rdN x ++ rdN y,hget s'.h b = hget s.h b) → ∀ L' : LV → Prop,L' v → bin P t k s' op x y L' := by
 unfold bin at h
 split at h
 ·rename_i l m
  split at h
  ·obtain ⟨h1,h2,h3⟩ := h
   by_cases e : eqLs l m
   ·exact ⟨_,h2 e,fun s' _ L' h' => .mk h1 (fun _ => h') fun hn => absurd e hn⟩
   ·exact ⟨_,h3 e,fun s' _ L' h' => .mk h1 (fun hp => absurd hp e) fun _ => h'⟩
  ·obtain ⟨h1,h2,h3⟩ := h
   by_cases e : eqLs l m
   ·exact ⟨_,h2 e,fun s' _ L' h' => .mk h1 (fun _ => h') fun hn => absurd e hn⟩
   ·exact ⟨_,h3 e,fun s' _ L' h' => .mk h1 (fun hp => absurd hp e) fun _ => h'⟩
  ·exact h.elim
 ·rename_i k1 a k2 b
  split at h
  ·rename_i hk
   split at h
   ·rename_i hA
    obtain ⟨z,h1,h2⟩ := ar_x h
    exact ⟨_,h1,fun s' _ L' h' => by simp only [bin,hk,hA]; exact h2 _ h'⟩
   ·rename_i hA
    obtain ⟨z,h1,h2⟩ := cmp_x h
    exact ⟨_,h1,fun s' _ L' h' => by simp only [bin,hk,hA]; exact h2 _ h'⟩
  ·exact h.elim
 ·split at h
  ·obtain ⟨h1,h2⟩ := need_x h
   obtain ⟨z,h3,h4⟩ := str_x h1
   exact ⟨_,h3,fun s' _ L' h' => h2 _ (h4 _ h')⟩
  ·obtain ⟨z,h3,h4⟩ := br_x h
   exact ⟨_,h3,fun s' _ L' h' => h4 _ h'⟩
  ·obtain ⟨z,h3,h4⟩ := br_x h
   exact ⟨_,h3,fun s' _ L' h' => h4 _ h'⟩
  ·exact h.elim
 ·split at h
  ·split at h
   ·exact ⟨_,h,fun s' _ L' h' => h'⟩
   ·exact ⟨_,h,fun s' _ L' h' => h'⟩
   ·exact h.elim
  ·exact h.elim
 ·split at h
  ·split at h
   ·rename_i B hB
    split at h
    ·exact ⟨_,h,fun s' hs' L' h' => by simp only [bin]; rw [hs' _ (List.mem_append_left _ List.mem_cons_self),hB]; exact h'⟩
    ·exact ⟨_,h,fun s' hs' L' h' => by simp only [bin]; rw [hs' _ (List.mem_append_left _ List.mem_cons_self),hB]; exact h'⟩
    ·exact h.elim
   ·exact h.elim
  ·exact h.elim
 ·split at h
  ·split at h
   ·exact ⟨_,h,fun s' _ L' h' => h'⟩
   ·exact ⟨_,h,fun s' _ L' h' => h'⟩
   ·exact h.elim
  ·exact h.elim
 ·exact h.elim
theorem toStr_x {T : TT} {s : LS} {ts : TI} {x : LV} {L : (Unit → ByteArray) → Prop} (h : toStr T s ts x L) : ∃ z,L z ∧ ∀ s' : LS,(∀ b ∈ rdN x,hget s'.h b = hget s.h b) → ∀ L' : (Unit → ByteArray) → Prop,L' z → toStr T s' ts x L' := by
 have by_x : ∀ {l : Unit → List PV} {p : Unit → Prop},Need p (fun _ => Bytes l L) → ∃ z,L z ∧ ∀ L' : (Unit → ByteArray) → Prop,L' z → Need p (fun _ => Bytes l L') := by
  intro l p h
  cases h with
  | mk hp h =>
   cases h with
   | mk st hb hk => exact ⟨_,hk _ rfl,fun L' h' => .mk hp (.mk st hb fun z hz => by subst hz; exact h')⟩
 unfold toStr at h
 split at h
 case h_2 => exact h.elim
 rename_i e he
 split at h
 case h_2 => exact h.elim
 rename_i te hte
 split at h
 case h_2 => exact h.elim
 rename_i k hk
 split at h
 case h_2 => exact h.elim
 rename_i hk8
 split at h
 ·exact ⟨_,h,fun s' hs' L' h' => by simp only [toStr,he,hte,hk,hk8]; exact h'⟩
 ·obtain ⟨z,h1,h2⟩ := by_x h
  exact ⟨_,h1,fun s' hs' L' h' => by simp only [toStr,he,hte,hk,hk8]; exact h2 _ h'⟩
 ·split at h
  ·rename_i sy l hB
   split at h
   ·split at h
    ·rename_i hj
     obtain ⟨z,h1,h2⟩ := by_x h
     exact ⟨_,h1,fun s' hs' L' h' => by
      have hh := hs' _ List.mem_cons_self
      simp only [toStr,he,hte,hk,hk8,hh,hB,hj]; exact h2 _ h'⟩
    ·exact h.elim
   ·exact h.elim
  ·exact h.elim
 ·exact h.elim
theorem upd_x {l : Unit → List PV} {L : List PV → Prop} (h : Upd l L) : ∃ z,L z ∧ ∀ L' : List PV → Prop,L' z → Upd l L' := by
 cases h with | mk hk => exact ⟨_,hk _ rfl,fun L' h' => .mk fun l' hl => hl ▸ h'⟩
theorem arrL_x {T : TT} {ar : Nat} {x : LV} {lo hi : Bool} {L : LV → Prop} (h : arrL T s ar x lo hi L) : ∃ v,L v ∧ ∀ s' : LS,(∀ b ∈ rdN x,hget s'.h b = hget s.h b) → ∀ L' : LV → Prop,L' v → arrL T s' ar x lo hi L' := by
 unfold arrL at h
 split at h
 ·rename_i n e hk
  split at h
  ·rename_i hle
   split at h
   ·rename_i b o
    split at h
    ·rename_i B hB
     exact ⟨_,h,fun s' hs' L' h' => by
      have hh := hs' b List.mem_cons_self
      unfold arrL; simp only [hk,hle,hh,hB]; exact h'⟩
    ·exact h.elim
   ·exact h.elim
  ·exact h.elim
 ·exact h.elim
theorem lookL_x {T : TT} {k e : Nat} {x i : LV} {L : LV → Prop} (h : lookL T s k e x i L) : ∃ v,L v ∧ ∀ s' : LS,(∀ b ∈ rdN x,hget s'.h b = hget s.h b) → ∀ L' : LV → Prop,L' v → lookL T s' k e x i L' := by
 unfold lookL at h
 split at h
 ·rename_i tk te htk hte
  split at h
  ·rename_i h64 hz hag
   split at h
   ·rename_i b n
    split at h
    ·rename_i l hB
     obtain ⟨z,h1,h2⟩ := br_x h
     exact ⟨_,h1,fun s' hs' L' h' => by
      have hh := hs' b List.mem_cons_self
      unfold lookL; simp only [htk,hte,h64,hz,hag,hh,hB]; exact h2 _ h'⟩
    ·exact h.elim
   ·exact h.elim
  ·exact h.elim
 ·exact h.elim
theorem lookV_x {T : TT} {k e : Nat} {x i : LV} {L : LV → Prop} (h : lookV T s k e x i L) : ∃ v,L v ∧ ∀ s' : LS,(∀ b ∈ rdN x,hget s'.h b = hget s.h b) → ∀ L' : LV → Prop,L' v → lookV T s' k e x i L' := by
 unfold lookV at h
 split at h
 ·rename_i tk te htk hte
  split at h
  ·rename_i h64 he64
   split at h
   ·rename_i b n
    split at h
    ·rename_i l m hB
     cases h with
     | mk xv hxv hK =>
      exact ⟨_,hK,fun s' hs' L' h' => by
       have hh := hs' b List.mem_cons_self
       unfold lookV; simp only [htk,hte,h64,he64,hh,hB]; exact .mk xv hxv h'⟩
    ·exact h.elim
   ·exact h.elim
  ·exact h.elim
 ·exact h.elim
theorem sliceL_x {te : TI} {x : LV} {fr : Bool} {lo : LV} {hi : Option LV} {L : LV → Prop} (h : sliceL s te x fr lo hi L) : ∃ v,L v ∧ ∀ s' : LS,(∀ b ∈ rdN x,hget s'.h b = hget s.h b) → ∀ L' : LV → Prop,L' v → sliceL s' te x fr lo hi L' := by
 unfold sliceL at h
 split at h
 case h_2 => exact h.elim
 rename_i k l
 split at h
 ·split at h
  ·obtain ⟨h1,h2⟩ := need_x h
   obtain ⟨z,h3,h4⟩ := upd_x h1
   obtain ⟨y,h5,h6⟩ := sum_x h3
   exact ⟨_,h5,fun s' _ L' h' => by unfold sliceL; exact h2 _ (h4 _ (h6 _ h'))⟩
  ·exact h.elim
  ·obtain ⟨h1,h2⟩ := need_x h
   obtain ⟨z,h3,h4⟩ := upd_x h1
   obtain ⟨y,h5,h6⟩ := sum_x h3
   exact ⟨_,h5,fun s' _ L' h' => by unfold sliceL; exact h2 _ (h4 _ (h6 _ h'))⟩
 ·rename_i b e sz o n
  split at h
  ·rename_i B hB
   split at h
   ·obtain ⟨h1,h2⟩ := need_x h
    exact ⟨_,h1,fun s' hs' L' h' => by
     have hh := hs' b List.mem_cons_self
     simp only [sliceL,hh,hB]; exact h2 _ h'⟩
   ·exact h.elim
  ·rename_i B hB
   split at h
   ·rename_i hsz
    split at h
    ·cases h with
     | new hp h1 =>
      obtain ⟨z,h3,h4⟩ := imul_x h1
      obtain ⟨y,h5,h6⟩ := iadd_x h3
      obtain ⟨u,h7,h8⟩ := sum_x h5
      exact ⟨_,h7,fun s' hs' L' h' => by
       have hh := hs' b List.mem_cons_self
       simp only [sliceL,hh,hB,hsz]; exact .new hp (h4 _ (h6 _ (h8 _ h')))⟩
     | within hp h1 =>
      exact ⟨_,h1,fun s' hs' L' h' => by
       have hh := hs' b List.mem_cons_self
       simp only [sliceL,hh,hB,hsz]; exact .within hp h'⟩
    ·exact h.elim
    ·cases h with
     | new hp h1 =>
      obtain ⟨z,h3,h4⟩ := imul_x h1
      obtain ⟨y,h5,h6⟩ := iadd_x h3
      obtain ⟨u,h7,h8⟩ := sum_x h5
      exact ⟨_,h7,fun s' hs' L' h' => by
       have hh := hs' b List.mem_cons_self
       simp only [sliceL,hh,hB,hsz]; exact .new hp (h4 _ (h6 _ (h8 _ h')))⟩
     | within hp h1 =>
      exact ⟨_,h1,fun s' hs' L' h' => by
       have hh := hs' b List.mem_cons_self
       simp only [sliceL,hh,hB,hsz]; exact .within hp h'⟩
   ·exact h.elim
  ·exact h.elim
 ·exact h.elim
theorem eva_agree {s s' : LS} : ∀ (l : List Operand),(∀ x ∈ l,ev s' x = ev s x) → eva s' l = eva s l
 | [],_ => rfl
 | x :: l,h => by rw [eva,eva,h x List.mem_cons_self,eva_agree l fun y hy => h y (List.mem_cons_of_mem _ hy)]
theorem evs_agree {s s' : LS} : ∀ (l : List (Nat × Operand)),(∀ x ∈ l,ev s' x.2 = ev s x.2) → evs s' l = evs s l
 | [],_ => rfl
 | (i,x) :: l,h => by rw [evs,evs,h (i,x) List.mem_cons_self,evs_agree l fun y hy => h y (List.mem_cons_of_mem _ hy)]
theorem lop_x (hA : isA o = true) (h : lop P T o s K) : ∃ u,K (s.put o.dst u) ∧ Gives P T o s u := by
 obtain ⟨dst,op,ty,pos,after,guard⟩ := o
 cases op <;> simp only [isA,Bool.false_eq_true] at hA
 case move x => exact ⟨_,h,fun s' ha K' hK => by
  have := ha.2 x (by simp [Op.operands])
  simp only [lop]; rw [this]; exact hK⟩
 case assign x => exact ⟨_,h,fun s' ha K' hK => by
  have := ha.2 x (by simp [Op.operands])
  simp only [lop]; rw [this]; exact hK⟩
 case build t parts =>
  simp only [lop] at h
  split at h
  ·rename_i ti ht
   split at h
   ·rename_i hk
    split at h
    ·rename_i cs hf
     exact ⟨_,h,fun s' ha K' hK => by
      have e1 := evs_agree (s := s) (s' := s') parts.toList (fun x hx => ha.2 x.2 (by simp only [Op.operands]; first | exact Array.mem_map.2 ⟨x,by simpa using hx,rfl⟩ | exact List.mem_map.2 ⟨x,by simpa using hx,rfl⟩ | (simp; exact ⟨x.1,by simpa using hx⟩)))
      simp only [lop,ht,hk,e1,hf]; exact hK⟩
    ·exact h.elim
   ·exact h.elim
  ·exact h.elim
 case makeInterface t x =>
  simp only [lop] at h
  split at h
  ·rename_i ti ht
   split at h
   ·exact h.elim
   ·rename_i hk
    exact ⟨_,h,fun s' ha K' hK => by
     have e1 := ha.2 x (by simp [Op.operands])
     simp only [lop,ht,e1]
     cases ek : ti.kind <;> first | exact hK | exact absurd ek hk⟩
  ·exact h.elim
 case pick c x y =>
  simp only [lop] at h
  split at h
  ·rename_i b hb
   cases b with
   | true => exact ⟨_,h,fun s' ha K' hK => by
     have h1 := ha.2 c (by simp [Op.operands]); have h2 := ha.2 x (by simp [Op.operands])
     simp only [lop]; rw [h1,hb,h2]; exact hK⟩
   | false => exact ⟨_,h,fun s' ha K' hK => by
     have h1 := ha.2 c (by simp [Op.operands]); have h2 := ha.2 y (by simp [Op.operands])
     simp only [lop]; rw [h1,hb,h2]; exact hK⟩
  ·exact h.elim
 case binOp op t x y t2 =>
  simp only [lop] at h
  obtain ⟨v,h1,h2⟩ := bin_x h
  refine ⟨v,h1,fun s' ha K' hK => ?_⟩
  have e1 := ha.2 x (by simp [Op.operands]); have e2 := ha.2 y (by simp [Op.operands])
  simp only [lop]
  rw [e1,e2]
  refine h2 s' (fun b hb => ?_) _ hK
  rcases List.mem_append.1 hb with hb | hb
  ·exact ha.1 b (rds_mem (x := x) (by simp [Op.operands]) hb)
  ·exact ha.1 b (rds_mem (x := y) (by simp [Op.operands]) hb)
 case nilCheck x =>
  simp only [lop] at h
  split at h
  ·rename_i b o' hx
   split at h
   ·rename_i B hB
    exact ⟨_,h,fun s' ha K' hK => by
     have e1 := ha.2 x (by simp [Op.operands])
     have hh := ha.1 b (rds_mem (x := x) (by simp [Op.operands]) (by rw [hx]; exact List.mem_cons_self))
     simp only [lop]; rw [e1,hx]; simp only [hh,hB]; exact hK⟩
   ·exact h.elim
  ·rename_i sy l o' hx
   exact ⟨_,h,fun s' ha K' hK => by
     have e1 := ha.2 x (by simp [Op.operands])
     simp only [lop]; rw [e1,hx]; exact hK⟩
  ·exact h.elim
 case load t x =>
  simp only [lop] at h
  split at h
  ·rename_i ti ht
   split at h
   ·rename_i b o' hx
    split at h
    ·rename_i B hB
     obtain ⟨v,h1,h2⟩ := loadB_x h
     exact ⟨v,h1,fun s' ha K' hK => by
      have e1 := ha.2 x (by simp [Op.operands])
      have hh := ha.1 b (rds_mem (x := x) (by simp [Op.operands]) (by rw [hx]; exact List.mem_cons_self))
      simp only [lop]; rw [e1,hx]; simp only [ht,hh,hB]; exact h2 _ hK⟩
    ·exact h.elim
   ·rename_i sy l o' hx
    obtain ⟨vs,h1,h2⟩ := getP_x _ _ h
    obtain ⟨v,h3,h4⟩ := ofCells_x h1
    exact ⟨v,h3,fun s' ha K' hK => by
     have e1 := ha.2 x (by simp [Op.operands])
     simp only [lop]; rw [e1,hx]; simp only [ht]; exact h2 _ (h4 _ hK)⟩
   ·exact h.elim
  ·exact h.elim
 case fieldAddr t x f =>
  simp only [lop] at h
  split at h
  ·rename_i ti ht
   split at h
   ·rename_i fs hk
    split at h
    ·rename_i off ft hf
     split at h
     ·rename_i tf htf
      split at h
      ·rename_i hle
       split at h
       ·rename_i b o' hx
        split at h
        ·rename_i B hB
         obtain ⟨z,h1,h2⟩ := iadd_x h
         exact ⟨_,h1,fun s' ha K' hK => by
          have e1 := ha.2 x (by simp [Op.operands])
          have hh := ha.1 b (rds_mem (x := x) (by simp [Op.operands]) (by rw [hx]; exact List.mem_cons_self))
          simp only [lop]; rw [e1,hx]; simp only [ht,hk,hf,htf,hle,hh,hB]; exact h2 _ hK⟩
        ·exact h.elim
       ·rename_i sy l o' hx
        obtain ⟨z,h1,h2⟩ := iadd_x h
        exact ⟨_,h1,fun s' ha K' hK => by
         have e1 := ha.2 x (by simp [Op.operands])
         simp only [lop]; rw [e1,hx]; simp only [ht,hk,hf,htf,hle]; exact h2 _ hK⟩
       ·exact h.elim
      ·exact h.elim
     ·exact h.elim
    ·exact h.elim
   ·exact h.elim
  ·exact h.elim
 case field t x f =>
  simp only [lop] at h
  split at h
  ·rename_i ti ht
   split at h
   ·rename_i fs hk
    split at h
    ·rename_i off ft hf
     split at h
     ·rename_i tf htf
      split at h
      ·rename_i l hx
       split at h
       ·rename_i vs hg
        obtain ⟨v,h1,h2⟩ := ofCells_x h
        exact ⟨v,h1,fun s' ha K' hK => by
         have e1 := ha.2 x (by simp [Op.operands])
         simp only [lop]; rw [e1,hx]; simp only [ht,hk,hf,htf,hg]; exact h2 _ hK⟩
       ·exact h.elim
      ·exact h.elim
     ·exact h.elim
    ·exact h.elim
   ·exact h.elim
  ·exact h.elim
 case indexAddr t x y =>
  simp only [lop] at h
  split at h
  ·rename_i ti ht
   split at h
   ·rename_i k i hi
    split at h
    ·rename_i e hk
     split at h
     ·rename_i te hte
      split at h
      ·rename_i n sy l hx
       obtain ⟨h0,h1⟩ := need_x h
       obtain ⟨z,h2,h3⟩ := imul_x h0
       exact ⟨_,h2,fun s' ha K' hK => by
        have e1 := ha.2 x (by simp [Op.operands]); have e2 := ha.2 y (by simp [Op.operands])
        simp only [lop]; rw [e1,e2,hx,hi]; simp only [ht,hk,hte]; exact h1 _ (h3 _ hK)⟩
      ·rename_i b _ _ o' n hx
       split at h
       ·rename_i B hB
        obtain ⟨h0,h1⟩ := need_x h
        obtain ⟨z,h2,h3⟩ := imul_x h0
        obtain ⟨z2,h4,h5⟩ := iadd_x h2
        exact ⟨_,h4,fun s' ha K' hK => by
         have e1 := ha.2 x (by simp [Op.operands]); have e2 := ha.2 y (by simp [Op.operands])
         have hh := ha.1 b (rds_mem (x := x) (by simp [Op.operands]) (by rw [hx]; exact List.mem_cons_self))
         simp only [lop]; rw [e1,e2,hx,hi]; simp only [ht,hk,hte,hh,hB]; exact h1 _ (h3 _ (h5 _ hK))⟩
       ·exact h.elim
      ·exact h.elim
     ·exact h.elim
    ·rename_i n e hk
     split at h
     ·rename_i te hte
      split at h
      ·rename_i b o' hx
       split at h
       ·rename_i B hB
        obtain ⟨h0,h1⟩ := need_x h
        obtain ⟨z,h2,h3⟩ := imul_x h0
        obtain ⟨z2,h4,h5⟩ := iadd_x h2
        exact ⟨_,h4,fun s' ha K' hK => by
         have e1 := ha.2 x (by simp [Op.operands]); have e2 := ha.2 y (by simp [Op.operands])
         have hh := ha.1 b (rds_mem (x := x) (by simp [Op.operands]) (by rw [hx]; exact List.mem_cons_self))
         simp only [lop]; rw [e1,e2,hx,hi]; simp only [ht,hk,hte,hh,hB]; exact h1 _ (h3 _ (h5 _ hK))⟩
       ·exact h.elim
      ·exact h.elim
     ·exact h.elim
    ·exact h.elim
   ·exact h.elim
  ·exact h.elim
 case index t x y =>
  simp only [lop] at h
  split at h
  ·rename_i ti ht
   split at h
   ·rename_i hk
    split at h
    ·rename_i z k i hx hi
     obtain ⟨h0,h1⟩ := need_x h
     obtain ⟨z,h2,h3⟩ := sum_x h0
     exact ⟨_,h2,fun s' ha K' hK => by
      have e1 := ha.2 x (by simp [Op.operands]); have e2 := ha.2 y (by simp [Op.operands])
      simp only [lop]; rw [e1,e2,hx,hi]; simp only [ht,hk]; exact h1 _ (h3 _ hK)⟩
    ·exact h.elim
   ·exact h.elim
  ·exact h.elim
 case convert src dt x =>
  simp only [lop] at h
  split at h
  ·rename_i ts ti hts ht
   split at h
   ·rename_i k hk
    split at h
    ·rename_i k' a hx
     split at h
     ·rename_i n
      exact ⟨_,h,fun s' ha K' hK => by
       have e1 := ha.2 x (by simp [Op.operands])
       simp only [lop,hts,ht,hk]; rw [e1,hx]; exact hK⟩
     ·rename_i n
      obtain ⟨z,h1,h2⟩ := fit_x h
      exact ⟨_,h1,fun s' ha K' hK => by
       have e1 := ha.2 x (by simp [Op.operands])
       simp only [lop,hts,ht,hk]; rw [e1,hx]; exact h2 _ hK⟩
    ·exact h.elim
   ·rename_i hk
    split at h
    ·rename_i k' a hx
     obtain ⟨z,h1,h2⟩ := str_x h
     exact ⟨_,h1,fun s' ha K' hK => by
      have e1 := ha.2 x (by simp [Op.operands])
      simp only [lop,hts,ht,hk]; rw [e1,hx]; exact h2 _ hK⟩
    ·rename_i z hx
     exact ⟨_,h,fun s' ha K' hK => by
      have e1 := ha.2 x (by simp [Op.operands])
      simp only [lop,hts,ht,hk]; rw [e1,hx]; exact hK⟩
    ·rename_i n1 n2
     obtain ⟨z,h1,h2⟩ := toStr_x h
     refine ⟨_,h1,fun s' ha K' hK => ?_⟩
     have e1 := ha.2 x (by simp [Op.operands])
     have h3 := h2 s' (fun b hb => ha.1 b (rds_mem (x := x) (by simp [Op.operands]) hb)) (fun z => K' (s'.put dst (.p (.str z)))) hK
     rw [← e1] at h3 n1 n2
     simp only [lop,hts,ht,hk]
     exact h3
   ·exact h.elim
  ·exact h.elim
 case slice t x lo hi mx =>
  cases mx with
  | some mx => simp at hA
  | none =>
   simp only [lop] at h
   have same : ∀ {s' : LS},(∀ y ∈ (Op.slice t x lo hi none).operands,ev s' y = ev s y) → ev s' x = ev s x ∧ lo.map (ev s') = lo.map (ev s) ∧ hi.map (ev s') = hi.map (ev s) := by
    intro s' ha
    refine ⟨ha x (by simp [Op.operands]),?_,?_⟩
    ·cases lo with
     | none => rfl
     | some y => simp only [Option.map_some]; rw [ha y (by simp [Op.operands])]
    ·cases hi with
     | none => rfl
     | some y => simp only [Option.map_some]; rw [ha y (by simp [Op.operands])]
   split at h
   ·rename_i ti ht
    split at h
    ·rename_i hk
     split at h
     ·rename_i z hx
      split at h
      ·rename_i k1 l1 hlo
       split at h
       ·rename_i hhi
        obtain ⟨h1,h2⟩ := need_x h
        obtain ⟨y,h3,h4⟩ := str_x h1
        exact ⟨_,h3,fun s' ha K' hK => by
         obtain ⟨e1,e2,e3⟩ := same ha.2
         simp only [lop,ht,hk,e1,e2,e3,hx,hlo,hhi]; exact h2 _ (h4 _ hK)⟩
       ·rename_i k2 l2 hhi
        obtain ⟨h1,h2⟩ := need_x h
        obtain ⟨y,h3,h4⟩ := str_x h1
        exact ⟨_,h3,fun s' ha K' hK => by
         obtain ⟨e1,e2,e3⟩ := same ha.2
         simp only [lop,ht,hk,e1,e2,e3,hx,hlo,hhi]; exact h2 _ (h4 _ hK)⟩
       ·exact h.elim
      ·exact h.elim
     ·exact h.elim
    ·rename_i e hk
     split at h
     ·rename_i te hte
      obtain ⟨v,h1,h2⟩ := sliceL_x h
      refine ⟨v,h1,fun s' ha K' hK => ?_⟩
      obtain ⟨e1,e2,e3⟩ := same ha.2
      have h3 := h2 s' (fun b hb => ha.1 b (rds_mem (x := x) (by simp [Op.operands]) hb)) (fun v => K' (s'.put dst v)) hK
      simp only [lop,ht,hk,hte,e1,e2,e3]
      exact h3
     ·exact h.elim
    ·rename_i ar hk
     obtain ⟨v,h1,h2⟩ := arrL_x h
     refine ⟨v,h1,fun s' ha K' hK => ?_⟩
     obtain ⟨e1,e2,e3⟩ := same ha.2
     have h3 := h2 s' (fun b hb => ha.1 b (rds_mem (x := x) (by simp [Op.operands]) hb)) (fun v => K' (s'.put dst v)) hK
     simp only [lop,ht,hk,e1]
     exact h3
    ·rename_i n e hk
     obtain ⟨v,h1,h2⟩ := arrL_x h
     refine ⟨v,h1,fun s' ha K' hK => ?_⟩
     obtain ⟨e1,e2,e3⟩ := same ha.2
     have h3 := h2 s' (fun b hb => ha.1 b (rds_mem (x := x) (by simp [Op.operands]) hb)) (fun v => K' (s'.put dst v)) hK
     simp only [lop,ht,hk,e1]
     exact h3
    ·exact h.elim
   ·exact h.elim
 case lookup t x i ok =>
  simp only [lop] at h
  split at h
  ·rename_i k e hk
   obtain ⟨v,h1,h2⟩ := lookL_x h
   refine ⟨v,h1,fun s' ha K' hK => ?_⟩
   have e1 := ha.2 x (by simp [Op.operands]); have e2 := ha.2 i (by simp [Op.operands])
   simp only [lop,hk,e1,e2]
   exact h2 s' (fun b hb => ha.1 b (rds_mem (x := x) (by simp [Op.operands]) hb)) (fun v => K' (s'.put dst v)) hK
  ·rename_i k e hk
   obtain ⟨v,h1,h2⟩ := lookV_x h
   refine ⟨v,h1,fun s' ha K' hK => ?_⟩
   have e1 := ha.2 x (by simp [Op.operands]); have e2 := ha.2 i (by simp [Op.operands])
   simp only [lop,hk,e1,e2]
   exact h2 s' (fun b hb => ha.1 b (rds_mem (x := x) (by simp [Op.operands]) hb)) (fun v => K' (s'.put dst v)) hK
  ·exact h.elim
 case unOp uop t x =>
  simp only [lop] at h
  split at h
  ·split at h
   ·rename_i b hx
    cases b with
    | true => exact ⟨_,h,fun s' ha K' hK => by
      have e1 := ha.2 x (by simp [Op.operands])
      simp only [lop]; rw [e1,hx]; exact hK⟩
    | false => exact ⟨_,h,fun s' ha K' hK => by
      have e1 := ha.2 x (by simp [Op.operands])
      simp only [lop]; rw [e1,hx]; exact hK⟩
   ·exact h.elim
  ·split at h
   ·rename_i k a hx
    obtain ⟨z,h1,h2⟩ := ar_x h
    exact ⟨_,h1,fun s' ha K' hK => by
     have e1 := ha.2 x (by simp [Op.operands])
     simp only [lop]; rw [e1,hx]; exact h2 _ hK⟩
   ·exact h.elim
  ·exact h.elim
 case call c =>
  split at hA
  ·rename_i hc
   simp only [lop,hc] at h
   have same : ∀ {s' : LS},(∀ y ∈ (Op.call c).operands,ev s' y = ev s y) → eva s' c.args.toList = eva s c.args.toList := by
    intro s' ha
    exact eva_agree _ fun x hx => ha x (by
     have hx : x ∈ c.args := by simpa using hx
     simp [Op.operands,Call.operands,hc,hx])
   split at h
   ·rename_i x hargs
    split at h
    ·rename_i t hty
     split at h
     ·rename_i ti ht
      have fin : ∀ {v : PV},K (s.put dst (.p v)) → (∀ s' : LS,Agree ⟨dst,.call c,ty,pos,after,guard⟩ s s' → ∀ K' : LS → Prop,K' (s'.put dst (.p v)) → lop P T ⟨dst,.call c,ty,pos,after,guard⟩ s' K') → ∃ u,K (s.put dst u) ∧ Gives P T ⟨dst,.call c,ty,pos,after,guard⟩ s u := fun h1 h2 => ⟨_,h1,h2⟩
      split at h
      ·rename_i hk
       exact fin h fun s' ha K' hK => by simp only [lop,hc,same ha.2,hargs,hty,ht,hk]; exact hK
      ·rename_i hk
       exact fin h fun s' ha K' hK => by simp only [lop,hc,same ha.2,hargs,hty,ht,hk]; exact hK
      ·rename_i hk
       obtain ⟨y,h1,h2⟩ := sum_x h
       exact fin h1 fun s' ha K' hK => by simp only [lop,hc,same ha.2,hargs,hty,ht,hk]; exact h2 _ hK
      ·rename_i e1 b e2 sz o2 n2 hk
       split at h
       ·rename_i B hB
        refine fin h fun s' ha K' hK => ?_
        have hm : ∃ y ∈ c.args,ev s y = .sl b e2 sz o2 n2 := by
         cases hl : c.args.toList with
         | nil => rw [hl] at hargs; cases hargs
         | cons y l =>
          rw [hl,eva] at hargs
          injection hargs with h5 _
          exact ⟨y,by
                 have : y ∈ c.args.toList := by rw [hl]; exact List.mem_cons_self
                 simpa using this,h5⟩
        obtain ⟨y,hy1,hy2⟩ := hm
        have hh := ha.1 _ (rds_mem (x := y) (by simp [Op.operands,Call.operands,hc,hy1]) (by rw [hy2]; exact List.mem_cons_self))
        simp only [lop,hc,same ha.2,hargs,hty,ht,hk,hh,hB]; exact hK
       ·exact h.elim
      ·exact h.elim
     ·exact h.elim
    ·exact h.elim
   all_goals (first | exact h.elim | (rename_i hb _ ; cases hb) | (rename_i hb; cases hb) | skip)
  ·rename_i hc
   simp only [lop,hc] at h
   have same : ∀ {s' : LS},(∀ y ∈ (Op.call c).operands,ev s' y = ev s y) → eva s' c.args.toList = eva s c.args.toList := by
    intro s' ha
    exact eva_agree _ fun x hx => ha x (by
     have hx : x ∈ c.args := by simpa using hx
     simp [Op.operands,Call.operands,hc,hx])
   split at h
   case h_5 k x k' y hargs =>
    obtain ⟨z,h3,h4⟩ := br_x h
    cases z with
    | true => exact ⟨_,h3,fun s' ha K' hK => by simp only [lop,hc,same ha.2,hargs]; exact h4 (fun c => match c with | true => _ | false => _) hK⟩
    | false => exact ⟨_,h3,fun s' ha K' hK => by simp only [lop,hc,same ha.2,hargs]; exact h4 (fun c => match c with | true => _ | false => _) hK⟩
   all_goals (first | exact h.elim | (rename_i hb _ ; cases hb) | (rename_i hb; cases hb) | skip)
  ·rename_i hc
   simp only [lop,hc] at h
   have same : ∀ {s' : LS},(∀ y ∈ (Op.call c).operands,ev s' y = ev s y) → eva s' c.args.toList = eva s c.args.toList := by
    intro s' ha
    exact eva_agree _ fun x hx => ha x (by
     have hx : x ∈ c.args := by simpa using hx
     simp [Op.operands,Call.operands,hc,hx])
   split at h
   case h_4 k x k' y hargs =>
    obtain ⟨z,h3,h4⟩ := br_x h
    cases z with
    | true => exact ⟨_,h3,fun s' ha K' hK => by simp only [lop,hc,same ha.2,hargs]; exact h4 (fun c => match c with | true => _ | false => _) hK⟩
    | false => exact ⟨_,h3,fun s' ha K' hK => by simp only [lop,hc,same ha.2,hargs]; exact h4 (fun c => match c with | true => _ | false => _) hK⟩
   all_goals (first | exact h.elim | (rename_i hb _ ; cases hb) | (rename_i hb; cases hb) | skip)
  ·cases hA
 case extract x i =>
  simp only [lop] at h
  split at h
  ·rename_i l hx
   split at h
   ·rename_i v hv
    exact ⟨_,h,fun s' ha K' hK => by
     have e1 := ha.2 x (by simp [Op.operands])
     simp only [lop]; rw [e1,hx]; simp only [hv]; exact hK⟩
   ·exact h.elim
  ·exact h.elim
def stepL (P : Unit → Program) (T : Unit → TT) (all : List Oper) (o : Oper) (s : LS) (L : LS → Prop) : Prop :=
 match yes s all o.guard with
 | some c => match c with
  | true => lop P T o s L
  | false => L (s.put o.dst .nul)
 | none => False
theorem lops_cons (all : List Oper) (o : Oper) (rest : List Oper) : lops P T all (o :: rest) s K = stepL P T all o s fun s' => lops P T all rest s' K := rfl
def AgreeS (ops : Array Oper) (o : Oper) (s s' : LS) : Prop := (∀ b ∈ rds o s,hget s'.h b = hget s.h b) ∧ ∀ t ∈ o.looksAt ops,tget s'.t t = tget s.t t
def GivesS (P : Unit → Program) (T : Unit → TT) (ops : Array Oper) (o : Oper) (s : LS) (u : LV) : Prop :=
 ∀ s',AgreeS ops o s s' → ∀ L : LS → Prop,L (s'.put o.dst u) → stepL P T ops.toList o s' L
theorem agree_of {ops : Array Oper} {s s' : LS} (h : AgreeS ops o s s') : Agree o s s' := by
 refine ⟨h.1,fun x hx => ?_⟩
 cases x with
 | tmp t =>
  refine h.2 t ?_
  simp only [Oper.looksAt,List.mem_append,List.mem_filterMap]
  exact .inl ⟨.tmp t,by simpa using hx,rfl⟩
 | const v => rfl
 | global g => rfl
 | func f => rfl
theorem yes_of {ops : Array Oper} {s s' : LS} (h : AgreeS ops o s s') : yes s' ops.toList o.guard = yes s ops.toList o.guard := by
 cases hg : o.guard with
 | none => rfl
 | some p =>
  obtain ⟨j,want⟩ := p
  simp only [yes,onth_eq]
  have hj : ops.toList[j]? = ops[j]? := by simp
  rw [hj]
  cases e : ops[j]? with
  | none => rfl
  | some q =>
   dsimp only
   cases e2 : q.dst with
   | none => rfl
   | some d =>
    dsimp only
    rw [h.2 d (by simp [Oper.looksAt,hg,e,e2])]
theorem step_x {ops : Array Oper} {L : LS → Prop} (hA : isA o = true) (h : stepL P T ops.toList o s L) : ∃ u,L (s.put o.dst u) ∧ GivesS P T ops o s u := by
 unfold stepL at h
 split at h
 ·rename_i c hc
  cases c with
  | true =>
   obtain ⟨u,h1,h2⟩ := lop_x hA h
   exact ⟨u,h1,fun s' ha L' hL => by unfold stepL; rw [yes_of ha,hc]; exact h2 s' (agree_of ha) _ hL⟩
  | false => exact ⟨.nul,h,fun s' ha L' hL => by unfold stepL; rw [yes_of ha,hc]; exact hL⟩
 ·exact h.elim
theorem tget_put (d : Option Nat) (v : LV) (t : Nat) (h : d ≠ some t) : tget (s.put d v).t t = tget s.t t := by
 cases d with
 | none => rfl
 | some d =>
  simp only [LS.put,tset_eq,tget_eq,List.getD_eq_getElem?_getD]
  rw [List.getElem?_set_ne (by rintro rfl; exact h rfl)]
theorem put_h (d : Option Nat) (v : LV) : (s.put d v).h = s.h := by cases d <;> rfl
theorem put_comm (x y : Option Nat) (u v : LV) (h : ∀ d,x = some d → y ≠ some d) : (s.put x u).put y v = (s.put y v).put x u := by
 cases x with
 | none => rfl
 | some x => cases y with
  | none => rfl
  | some y =>
   simp only [LS.put,tset_eq]
   rw [List.set_comm _ _ (by rintro rfl; exact h _ rfl rfl)]
def swapOK (ops : Array Oper) (p q : Oper) : Bool := isA p && isA q && p.apart ops q
theorem step_swap {ops : Array Oper} {p q : Oper} {R : LS → Prop} (hsw : swapOK ops p q = true) {u : LV} (hp : GivesS P T ops p s u) (h : stepL P T ops.toList q (s.put p.dst u) R) :
  stepL P T ops.toList q s fun s1 => stepL P T ops.toList p s1 R := by
 simp only [swapOK,Bool.and_eq_true] at hsw
 obtain ⟨⟨hA,hB⟩,hap⟩ := hsw
 obtain ⟨h1,h2,h3⟩ := Oper.apart_spec hap
 obtain ⟨v,h4,h5⟩ := step_x hB h
 refine h5 s ⟨fun _ _ => by rw [put_h],fun t ht => (tget_put _ _ _ (fun e => h1 t e ht)).symm⟩ _ ?_
 refine hp _ ⟨fun _ _ => by rw [put_h],fun t ht => tget_put _ _ _ (fun e => h3 t e ht)⟩ _ ?_
 rw [← put_comm _ _ _ _ h2]
 exact h4
def opAt (ops : Array Oper) (j : Nat) : Oper := ops.toList.getD j default
theorem front {ops : Array Oper} {i : Nat} : ∀ (l : List Nat) {s : LS},l.Pairwise (· < ·) → i ∈ l → (∀ p ∈ l,p < i → swapOK ops (opAt ops p) (opAt ops i) = true) → lops P T ops.toList (l.map (opAt ops)) s K →
  stepL P T ops.toList (opAt ops i) s fun s1 => lops P T ops.toList ((l.filter (· != i)).map (opAt ops)) s1 K
 | [],s,_,hi,_,_ => by cases hi
 | p :: l,s,hp,hi,hsw,h => by
  rw [List.map_cons,lops_cons] at h
  rw [List.pairwise_cons] at hp
  rcases List.mem_cons.1 hi with rfl | hi'
  ·have : (i :: l).filter (· != i) = l := by
    rw [List.filter_cons_of_neg (by simp),List.filter_eq_self]
    intro a ha; have := hp.1 a ha; simp; omega
   rw [this]; exact h
  ·have hlt := hp.1 i hi'
   have hs := hsw p (List.mem_cons_self) hlt
   have hA : isA (opAt ops p) = true := by simp only [swapOK,Bool.and_eq_true] at hs; exact hs.1.1
   obtain ⟨u,h1,h2⟩ := step_x hA h
   have h3 := front l hp.2 hi' (fun p' hp' => hsw p' (List.mem_cons_of_mem _ hp')) h1
   have h4 := step_swap hs h2 h3
   have : (p :: l).filter (· != i) = p :: l.filter (· != i) := List.filter_cons_of_pos (by simp; omega)
   rw [this,List.map_cons]
   exact h4
end
section
variable {P : Program} {T : TT} {K : LS → Prop}
def unl (ops : Array Oper) (listed : Array Bool) : List Nat := (List.range ops.size).filter fun j => !listed.getD j true
def reach (ops : Array Oper) : Nat → Nat → Nat → Bool
 | 0,_,_ => false
 | n + 1,p,q => match ops[q]? with
  | some o => o.after.any fun e => Region.binds .any e && (e.on == p || reach ops n p e.on)
  | none => false
def drawOK (ops : Array Oper) : Bool :=
 (List.range ops.size).all fun q => (match ops[q]? with
  | some o => o.after.all fun e => !Region.binds .any e || decide (e.on < q)
  | none => true) && (List.range q).all fun p => reach ops ops.size p q || swapOK ops (opAt ops p) (opAt ops q)
def Closed (ops : Array Oper) (listed : Array Bool) : Prop := ∀ q o,ops[q]? = some o → listed.getD q false = true → ∀ e ∈ o.after,Region.binds .any e = true → listed.getD e.on false = true
theorem reach_listed {ops : Array Oper} {listed : Array Bool} (hc : Closed ops listed) {p : Nat} : ∀ (n q : Nat) (o : Oper),ops[q]? = some o → reach ops n p q = true → (∀ e ∈ o.after,Region.binds .any e = true → listed.getD e.on false = true) → listed.getD p false = true
 | 0,q,o,_,hr,_ => by cases hr
 | n + 1,q,o,ho,hr,ha => by
  rw [reach,ho] at hr
  dsimp only at hr
  obtain ⟨e,he,hb⟩ := Array.any_eq_true'.1 hr
  simp only [Bool.and_eq_true,Bool.or_eq_true,beq_iff_eq] at hb
  have hl := ha e he hb.1
  rcases hb.2 with h | h
  ·rw [← h]; exact hl
  ·cases e2 : ops[e.on]? with
   | none => cases n <;> simp [reach,e2] at h
   | some o2 => exact reach_listed hc n e.on o2 e2 h (hc e.on o2 e2 hl)
theorem getD_tf {listed : Array Bool} {j : Nat} (h : j < listed.size) (d d' : Bool) : listed.getD j d = listed.getD j d' := by
 rw [Array.getD_eq_getD_getElem?,Array.getD_eq_getD_getElem?,Array.getElem?_eq_getElem h]; rfl
theorem unl_set {ops : Array Oper} {listed : Array Bool} {i : Nat} (hs : listed.size = ops.size) : unl ops (listed.setIfInBounds i true) = (unl ops listed).filter (· != i) := by
 unfold unl
 rw [List.filter_filter]
 refine List.filter_congr fun j hj => ?_
 have hj : j < ops.size := List.mem_range.1 hj
 by_cases e : i = j
 ·subst e
  rw [Array.getD_eq_getD_getElem?,Array.getElem?_setIfInBounds_self_of_lt (by omega)]
  simp
 ·rw [getD_set_ne _ e]
  have : (j != i) = true := by simp; omega
  rw [this]; simp
theorem unl_sorted (ops : Array Oper) (listed : Array Bool) : (unl ops listed).Pairwise (· < ·) := List.Pairwise.filter _ (List.pairwise_lt_range)
theorem filter_len {i : Nat} : ∀ {l : List Nat},l.Pairwise (· < ·) → i ∈ l → (l.filter (· != i)).length + 1 = l.length
 | [],_,hi => by cases hi
 | p :: l,hp,hi => by
  rw [List.pairwise_cons] at hp
  by_cases e : p = i
  ·subst e
   have : (p :: l).filter (· != p) = l := by
    rw [List.filter_cons_of_neg (by simp),List.filter_eq_self]
    intro a ha; have := hp.1 a ha; simp; omega
   rw [this]; rfl
  ·have hi' : i ∈ l := by
    rcases List.mem_cons.1 hi with h | h
    ·exact absurd h.symm e
    ·exact h
   rw [List.filter_cons_of_pos (by simpa using e),List.length_cons,List.length_cons,filter_len hp.2 hi']
theorem any_sound (hT : TOK P T) {ops : Array Oper} (hd : drawOK ops = true) {c0 : Ctx} {w0 : World} {Q : Exit → Act → World → Prop} (hQ : ∀ a' w',Post K c0 w0 a' w' → Q .normal a' w') :
  ∀ (fuel : Nat) (listed : Array Bool) {s : LS} {c : Ctx} {a : Act} {w : World},listed.size = ops.size → Closed ops listed → (unl ops listed).length = fuel → Ext c0 w0 c w → St c s a w →
  lops (fun _ => P) (fun _ => T) ops.toList ((unl ops listed).map (opAt ops)) s K → wpAny P .any ops Q fuel listed a w := by
 have hd1 : ∀ q o,ops[q]? = some o → (∀ e ∈ o.after,Region.binds .any e = true → e.on < q) ∧ ∀ p,p < q → reach ops ops.size p q = true ∨ swapOK ops (opAt ops p) (opAt ops q) = true := by
  intro q o ho
  have hq : q < ops.size := (Array.getElem?_eq_some_iff.1 ho).1
  simp only [drawOK,List.all_eq_true,List.mem_range] at hd
  have h1 := hd q hq
  rw [ho] at h1
  simp only [Bool.and_eq_true,List.all_eq_true,List.mem_range,Bool.or_eq_true] at h1
  refine ⟨fun e he hb => ?_,h1.2⟩
  have h2 := Array.all_eq_true_iff_forall_mem.1 h1.1 e he
  simpa [hb] using h2
 have mem_unl : ∀ {listed : Array Bool} {j : Nat},j ∈ unl ops listed ↔ j < ops.size ∧ listed.getD j true = false := by
  intro listed j
  simp [unl,List.mem_filter]
 have at_ : ∀ {j o},ops[j]? = some o → opAt ops j = o := by
  intro j o ho
  simp [opAt,ho]
 intro fuel
 induction fuel with
 | zero =>
  intro listed s c a w hsz hcl hlen he hs h
  have h0 : unl ops listed = [] := List.eq_nil_of_length_eq_zero hlen
  refine ⟨List.eq_nil_iff_forall_not_mem.2 fun j hj => ?_,?_⟩
  ·obtain ⟨h1,o,h2,_⟩ := mem_ready.1 hj
   have : j ∈ unl ops listed := mem_unl.2 ⟨(Array.getElem?_eq_some_iff.1 h2).1,h1⟩
   rw [h0] at this; cases this
  ·rw [h0] at h
   exact hQ _ _ ⟨c,s,h,hs,he⟩
 | succ fuel ih =>
  intro listed s c a w hsz hcl hlen he hs h
  have hsort := unl_sorted ops listed
  refine ⟨fun hr => ?_,fun i hi => ?_⟩
  ·exfalso
   cases hu : unl ops listed with
   | nil => rw [hu] at hlen; cases hlen
   | cons i0 rest =>
    rw [hu,List.pairwise_cons] at hsort
    have hi0 : i0 ∈ unl ops listed := by rw [hu]; exact List.mem_cons_self
    obtain ⟨hlt,hun⟩ := mem_unl.1 hi0
    have : i0 ∈ Region.ready .any ops listed := by
     refine mem_ready.2 ⟨hun,ops[i0],Array.getElem?_eq_getElem hlt,fun e hee hb => ?_⟩
     have hlt2 := (hd1 i0 _ (Array.getElem?_eq_getElem hlt)).1 e hee hb
     cases hx : listed.getD e.on false with
     | true => rfl
     | false =>
      exfalso
      have : e.on ∈ unl ops listed := mem_unl.2 ⟨by omega,by rw [getD_tf (by omega) true false]; exact hx⟩
      rw [hu] at this
      rcases List.mem_cons.1 this with h3 | h3
      ·omega
      ·have := hsort.1 _ h3; omega
    rw [hr] at this; cases this
  ·obtain ⟨hun,o,ho,haft⟩ := mem_ready.1 hi
   have hlt : i < ops.size := (Array.getElem?_eq_some_iff.1 ho).1
   have hiu : i ∈ unl ops listed := mem_unl.2 ⟨hlt,hun⟩
   have hf := front (ops := ops) (i := i) (unl ops listed) hsort hiu (fun p hp hpi => by
    rcases (hd1 i o ho).2 p hpi with h1 | h1
    ·have := reach_listed hcl _ i o ho h1 haft
     have h2 := (mem_unl.1 hp).2
     rw [getD_tf (by rw [hsz]; exact (mem_unl.1 hp).1) true false,this] at h2; cases h2
    ·exact h1) h
   rw [at_ ho,← unl_set hsz] at hf
   have hsz' : (listed.setIfInBounds i true).size = ops.size := by simp [hsz]
   have hcl' : Closed ops (listed.setIfInBounds i true) := by
    intro q oq hoq hq e hee hb
    by_cases hqi : i = q
    ·subst hqi
     rw [ho] at hoq; cases hoq
     exact getD_set_true (haft e hee hb)
    ·rw [getD_set_ne _ hqi] at hq
     exact getD_set_true (hcl q oq hoq hq e hee hb)
   have hlen' : (unl ops (listed.setIfInBounds i true)).length = fuel := by
    have := filter_len hsort hiu
    rw [unl_set hsz]; omega
   unfold wpOp
   rw [ho]
   dsimp only
   unfold stepL at hf
   split at hf
   ·rename_i cb hy
    have hw := yes_sound hs hy
    cases cb with
    | true =>
     rw [if_pos hw]
     left
     refine Oper.wp_mono (fun a' w' hp => ?_) (lop_sound (Q := Q) hT hs hf)
     obtain ⟨c',s',hK,hs',he'⟩ := hp
     exact ih _ hsz' hcl' hlen' (he.trans he') hs' hK
    | false =>
     rw [if_neg (by rw [hw]; simp)]
     exact ih _ hsz' hcl' hlen' he (hs.put .nul _) hf
   ·exact hf.elim
theorem draw_sound (hT : TOK P T) (hm : P.follows .mixedOrders = true) {ops : Unit → Array Oper} {l : List Oper} {s : LS} (hl : (ops ()).toList = l) (hd : drawOK (ops ()) = true) (h : lops (fun _ => P) (fun _ => T) l l s K) : DrawF (fun _ => P) ops s K := by
 refine .mk fun c a w t Q hs hQ => ?_
 subst hl
 generalize ops () = ops at *
 simp only [Region.schedule,hm,Bool.true_or,if_true]
 have hget : ∀ i,(Array.replicate ops.size false).getD i false = false := by
  intro i
  rw [Array.getD_eq_getD_getElem?,Array.getElem?_replicate]
  split <;> rfl
 have hun : unl ops (Array.replicate ops.size false) = List.range ops.size := by
  unfold unl
  rw [List.filter_eq_self]
  intro j hj
  have hj := List.mem_range.1 hj
  simp [hj]
 refine wpAny_sound ops.size t _ a w (any_sound (K := K) hT hd (c0 := c) (w0 := w) (fun a' w' hp => hQ a' w' ?_) ops.size _ (by simp) ?_ (by rw [hun]; simp) (Ext.refl hs.hr) hs ?_)
 ·obtain ⟨c',s',hK,hs',he⟩ := hp
  exact ⟨c',s',hK,hs',he⟩
 ·intro q o _ hq
  rw [hget] at hq; cases hq
 ·rw [hun]
  have : (List.range ops.size).map (opAt ops) = ops.toList := by
   apply List.ext_getElem
   ·simp
   ·intro i h1 h2
    simp [opAt] at h1 h2 ⊢
    simp [h1]
  rw [this]; exact h
end
end Go.LX
namespace Go.LX
open Go
set_option maxHeartbeats 32000000
theorem Cell.at {l : Unit → List PV} {i : Unit → Int} {K : PV → Prop} (x : Int) (j : Nat) {v : PV} (h : (l ())[j]? = some v) (hx : i () = x) (hj : x.toNat = j) (hk : K v) : Cell l i K := .mk v (by rw [hx,hj]; exact h) hk
mutual
def ale : LV → LV → Prop
 | .p u,.p u' => pvle u u'
 | .agg l,.agg m => ales l m
 | x,y => x = y
def ales : List LV → List LV → Prop
 | [],[] => True
 | x :: l,y :: m => ale x y ∧ ales l m
 | _,_ => False
end
section
variable {c : Ctx} {w : World}
theorem ales_get : ∀ {l m : List LV},ales l m → l.length = m.length ∧ ∀ (j : Nat) (u' : LV),m[j]? = some u' → ∃ u,l[j]? = some u ∧ ale u u'
 | [],[],_ => ⟨rfl,fun j u' h => by simp at h⟩
 | x :: l,y :: m,h => by
  rw [ales] at h
  obtain ⟨h1,h2⟩ := ales_get h.2
  refine ⟨by simp [h1],fun j u' hj => ?_⟩
  cases j with
  | zero => simp at hj; subst hj; exact ⟨x,rfl,h.1⟩
  | succ j => simp at hj; obtain ⟨u,h3,h4⟩ := h2 j u' hj; exact ⟨u,by simpa using h3,h4⟩
 | [],_ :: _,h => by simp [ales] at h
 | _ :: _,[],h => by simp [ales] at h
theorem ale_cases {u u' : LV} (h : ale u u') : u = u' ∨ (∃ x y,u = .p x ∧ u' = .p y ∧ pvle x y) ∨ ∃ l m,u = .agg l ∧ u' = .agg m ∧ ales l m := by
 unfold ale at h
 split at h
 ·exact .inr (.inl ⟨_,_,rfl,rfl,h⟩)
 ·exact .inr (.inr ⟨_,_,rfl,rfl,h⟩)
 ·exact .inl h
theorem LR.ale {u : LV} {x : Value} (h : LR c w u x) : ∀ {u' : LV},ale u u' → LR c w u' x := by
 induction h with
 | p v x hv =>
  intro u' hle
  rcases ale_cases hle with e | ⟨a,b,e1,e2,e3⟩ | ⟨a,b,e1,e2,e3⟩
  ·subst e; exact .p _ _ hv
  ·cases e1; subst e2; exact .p _ _ (hv.le e3)
  ·cases e1
 | agg l x hl hrel ih =>
  intro u' hle
  rcases ale_cases hle with e | ⟨a,b,e1,e2,e3⟩ | ⟨a,b,e1,e2,e3⟩
  ·subst e; exact .agg _ _ hl hrel
  ·cases e1
  ·cases e1; subst e2
   obtain ⟨h1,h2⟩ := ales_get e3
   exact .agg _ _ (h1.symm.trans hl) fun j u hu => let ⟨v,h3,h4⟩ := h2 j u hu; ih j v h3 h4
 | _ =>
  intro u' hle
  rcases ale_cases hle with e | ⟨a,b,e1,e2,e3⟩ | ⟨a,b,e1,e2,e3⟩
  ·subst e; constructor <;> assumption
  ·cases e1
  ·cases e1
end
section
variable {P : Unit → Program} {f : Nat} {args args0 : List LV} {h : LH} {n : Nat} {K : LV → LH → Nat → Prop}
theorem CallF.le (hc : CallF P f args0 h n K) (hle : ales args args0) : CallF P f args h n K := by
 cases hc with
 | mk h1 h2 =>
  obtain ⟨g1,g2⟩ := ales_get hle
  refine .mk h1 fun c w xs a b d e => h2 c w xs a b (g1.symm.trans d) fun i u hu => ?_
  obtain ⟨v,h3,h4⟩ := g2 i u hu
  exact (e i v h3).ale h4
theorem callF_val {R : LV → Prop} (hc : CallF P f args0 [] 0 fun r h' n' => R r ∧ h' = [] ∧ n' = 0) (hle : ales args (renVs [] 0 n args0)) (hok : okVs [] args0 = true) (hR : ∀ r,R r → renV [] 0 n r = r) (hK : ∀ r,R r → K r h n) : CallF P f args h n K := by
 refine CallF.le (callF_frame hc [] rfl trivial rfl hok fun r h' n' ⟨h1,h2,h3⟩ => ?_) hle
 subst h2 h3
 rw [hR r h1]
 exact hK r h1
theorem CallF.re {h' : LH} (hre : Re n ⟨args,h,n⟩ ⟨args0,h',n⟩) (hc : CallF P f args0 h' n K) : CallF P f args h n K := by
 cases hc with
 | mk h1 h2 =>
  refine .mk h1 fun c w xs hr hN hl hrel => ?_
  obtain ⟨hre⟩ := hre
  obtain ⟨c',he,hs⟩ := hre c w c { tmps := xs,defers := [] } w hN (Ext.refl hr) ⟨hl,hrel,rfl,hr,hN⟩
  refine (h2 c' w xs hs.hr hs.nn hs.tl hs.tr).mono fun e w' ⟨c2,r,v,h2,n2,g1,g2,g3,g4,g5,g6⟩ => ?_
  exact ⟨c2,r,v,h2,n2,g1,g2,g3,g4,g5,he.trans g6⟩
theorem CallF.ret {K' : LV → LH → Nat → Prop} (hc : CallF P f args h n K) (hK : ∀ r h' n',K r h' n' → RetF n [r] h' n' K') : CallF P f args h n K' := by
 cases hc with
 | mk h1 h2 =>
  refine .mk h1 fun c w xs hr hN hl hrel => ?_
  refine (h2 c w xs hr hN hl hrel).mono fun e w' ⟨c2,r,v,h2,n2,g1,g2,g3,g4,g5,g6⟩ => ?_
  obtain ⟨rs',h3,n3,⟨hre⟩,hlr,hk⟩ := hK r h2 n2 g2
  obtain ⟨c3,he3,hs3⟩ := hre c w c2 { tmps := #[v],defers := [] } w' hN g6 ⟨rfl,fun i u hu => by
   cases i with
   | zero => simp at hu; subst hu; exact g5
   | succ i => simp at hu,rfl,g3,g4⟩
  obtain ⟨u,rfl⟩ : ∃ u,rs' = [u] := by
   cases rs' with
   | nil => cases hlr
   | cons u l => cases l with
    | nil => exact ⟨u,rfl⟩
    | cons _ _ => simp at hlr
  exact ⟨c3,u,v,h3,n3,g1,hk,hs3.hr,hs3.nn,hs3.tr 0 u rfl,he3⟩
end
end Go.LX
namespace Go.LX
open Go
set_option linter.unusedVariables false
set_option maxHeartbeats 32000000
theorem pvles_refl : ∀ l : List PV,pvles l l
 | [] => trivial
 | u :: l => ⟨pvle_refl u,pvles_refl l⟩
def flatP : PV → Prop
 | .vsl _ _ _ => False
 | .vp _ _ _ => False
 | _ => True
mutual
def flatV : LV → Prop
 | .p v => flatP v
 | .agg l => flatVs l
 | .tup l => flatVs l
 | .iface _ v => flatV v
 | .fn _ l => flatVs l
 | _ => True
def flatVs : List LV → Prop
 | [] => True
 | x :: l => flatV x ∧ flatVs l
end
def flatB : LB → Prop
 | .pure _ l => ∀ u ∈ l,flatP u
 | .mix l => flatVs l
 | .iter _ _ => True
 | .set _ => True
 | .kv _ _ => True
 | .frz l => ∀ u ∈ l,flatP u
 | .fix _ _ => False
 | .bld _ l => flatVs l
def flatH : LH → Prop
 | [] => True
 | (_,B) :: l => flatB B ∧ flatH l
def lendV (h : LH) : LV → LV → Prop
 | .sl b _ _ o k,.p (.vsl k' _ l) => k.val = k'.val ∧ ∃ sy L,hget h b = some (.pure sy L) ∧ (l <+: L.drop o.val.toNat ∨ ∃ l0,l0 <+: L.drop o.val.toNat ∧ pvles l0 l)
 | .p u,.p u' => pvle u u'
 | _,_ => False
def lends (h : LH) : List LV → List LV → Prop
 | [],[] => True
 | x :: l,y :: m => lendV h x y ∧ lends h l m
 | _,_ => False
def lent (h : LH) : List LV → List Nat
 | .sl b _ _ _ _ :: l => b :: lent h l
 | _ :: l => lent h l
 | [] => []
section
variable {c c0 : Ctx} {w w' : World} {n : Nat} {h : LH}
theorem PR.anti {M M' : Nat → Prop} (hM : ∀ r,M' r → M r) {u : PV} {x : Value} (hp : PR M w u x) : PR M' w u x := by
 induction hp with
 | int k e n hn => exact .int k e n hn
 | bool b => exact .bool b
 | str s => exact .str s
 | nilp => exact .nilp
 | nils => exact .nils
 | nilif => exact .nilif
 | nilfn => exact .nilfn
 | nilm => exact .nilm
 | fn f => exact .fn f
 | vsl0 n sy l a c h hc => exact .vsl0 n sy l a c h hc
 | vsl n sy l a k c f h hs hm hlt hk hc hcell hrel ih => exact .vsl n sy l a k c f h hs (fun hx => hm (hM _ hx)) hlt hk hc hcell ih
 | vp sy l o a k f h hs hm hlt hcell hrel ih => exact .vp sy l o a k f h hs (fun hx => hm (hM _ hx)) hlt hcell ih
 | undef x hx => exact .undef x hx
theorem PR.flat {M M' : Nat → Prop} {u : PV} {x : Value} (hp : PR M w u x) (hf : flatP u) : PR M' w u x := by
 cases hp with
 | int k e n hn => exact .int k e n hn
 | bool b => exact .bool b
 | str s => exact .str s
 | nilp => exact .nilp
 | nils => exact .nils
 | nilif => exact .nilif
 | nilfn => exact .nilfn
 | nilm => exact .nilm
 | fn f => exact .fn f
 | vsl0 n sy l a c h hc => exact hf.elim
 | vsl n sy l a k c f h hs hm hlt hk hc hcell hrel => exact hf.elim
 | vp sy l o a k f h hs hm hlt hcell hrel => exact hf.elim
 | undef x hx => exact .undef x hx
theorem flatVs_mem : ∀ {l : List LV},flatVs l → ∀ u ∈ l,flatV u
 | [],_,u,hu => by cases hu
 | x :: l,h,u,hu => by
  rw [flatVs] at h
  rcases List.mem_cons.1 hu with rfl | hu
  ·exact h.1
  ·exact flatVs_mem h.2 u hu
theorem flatH_get : ∀ {l : LH},flatH l → ∀ b B,hget l b = some B → flatB B
 | [],_,b,B,hb => by cases hb
 | (a,A) :: l,h,b,B,hb => by
  rw [hget_cons] at hb
  by_cases e : a = b
  ·rw [if_pos e] at hb; cases hb; exact h.1
  ·rw [if_neg e] at hb; exact flatH_get h.2 b B hb
def Ctx.lend (c : Ctx) (L : List Nat) : Ctx := { m := fun _ => none,X := fun r => c.mut r ∧ ∀ b ∈ L,c.m b ≠ some (some r),N := 0 }
theorem lend_own (L : List Nat) (r : Nat) : ¬ (c.lend L).own r := by rintro ⟨b,hb⟩; cases hb
theorem lend_mut (L : List Nat) (r : Nat) : (c.lend L).mut r → c.mut r := by
 rintro (h | h)
 ·exact h.1
 ·exact (lend_own L r h).elim
theorem fok0 : FOK 0 n [] := fok_ok rfl
theorem LR.outofL {ρ : List (Nat × Nat)} {n0 : Nat} (hF : FOK n0 n ρ) {u : LV} {x : Value} (hu : LR c0 w' u x) : flatV u → LR (c.outer c0 ρ n0 n) w' (renV ρ n0 n u) x := by
 have lists : ∀ {l : List LV} {xs : Array Value},flatVs l → l.length = xs.size → (∀ (j : Nat) (u : LV),l[j]? = some u → flatV u → LR (c.outer c0 ρ n0 n) w' (renV ρ n0 n u) (xs.getD j Go.undef)) → (renVs ρ n0 n l).length = xs.size ∧ ∀ (j : Nat) (u : LV),(renVs ρ n0 n l)[j]? = some u → LR (c.outer c0 ρ n0 n) w' u (xs.getD j Go.undef) := by
  intro l xs h0 h1 h2
  refine ⟨by rw [renVs_length]; exact h1,fun j u hu => ?_⟩
  rw [renVs_get] at hu
  cases e : l[j]? with
  | none => rw [e] at hu; cases hu
  | some v => rw [e] at hu; cases hu; exact h2 j v e (flatVs_mem h0 v (List.mem_of_getElem? e))
 induction hu with
 | p v x hv => intro hf; exact .p _ _ (hv.flat hf)
 | ptr b o r k hm ho =>
  intro _
  rw [renV]
  cases e : rn ρ n0 n b with
  | none => exact .undef _
  | some b' => exact .ptr _ _ r k ((outer_rn hF e).trans hm) ho
 | goneP b o a hm hb =>
  intro _
  rw [renV]
  cases e : rn ρ n0 n b with
  | none => exact .undef _
  | some b' => exact .goneP _ _ a ((outer_rn hF e).trans hm) (rn_lt hF e hb)
 | sl b e sz o n' r j k cp tot hm ho hn hk hc hs ht =>
  intro _
  rw [renV]
  cases e : rn ρ n0 _ b with
  | none => exact .undef _
  | some b' => exact .sl _ _ _ _ _ r j k cp tot ((outer_rn hF e).trans hm) ho hn hk hc hs ht
 | slv b e sz o n' hm ho hn =>
  intro _
  rw [renV]
  cases e : rn ρ n0 _ b with
  | none => exact .undef _
  | some b' => exact .slv _ _ _ _ _ ((outer_rn hF e).trans hm) ho hn
 | slz b e sz o n' a r tot hm ho hn hs h0 =>
  intro _
  rw [renV]
  cases e : rn ρ n0 _ b with
  | none => exact .undef _
  | some b' => exact .slz _ _ _ _ _ a r tot ((outer_rn hF e).trans hm) ho hn hs h0
 | goneS b e sz o n' a k cp hm hb =>
  intro _
  rw [renV]
  cases e : rn ρ n0 _ b with
  | none => exact .undef _
  | some b' => exact .goneS _ _ _ _ _ a k cp ((outer_rn hF e).trans hm) (rn_lt hF e hb)
 | sla b o n r j k cp hm ho hn hk hc => intro _; rw [renV]; exact .undef _
 | goneA b o n x hm hb => intro _; rw [renV]; exact .undef _
 | mp b r hm =>
  intro _
  rw [renV]
  cases e : rn ρ n0 _ b with
  | none => exact .undef _
  | some b' => exact .mp _ r ((outer_rn hF e).trans hm)
 | goneM b x hm hb =>
  intro _
  rw [renV]
  cases e : rn ρ n0 _ b with
  | none => exact .undef _
  | some b' => exact .goneM _ x ((outer_rn hF e).trans hm) (rn_lt hF e hb)
 | agg l x hl hrel ih => intro hf; rw [flatV] at hf; rw [renV]; obtain ⟨h1,h2⟩ := lists hf hl ih; exact .agg _ _ h1 h2
 | tup l x hl hrel ih => intro hf; rw [flatV] at hf; rw [renV]; obtain ⟨h1,h2⟩ := lists hf hl ih; exact .tup _ _ h1 h2
 | iface t v x hv ih => intro hf; rw [flatV] at hf; rw [renV]; exact .iface _ _ _ (ih hf)
 | fn f l x hl hrel ih => intro hf; rw [flatV] at hf; rw [renV]; obtain ⟨h1,h2⟩ := lists hf hl ih; exact .fn _ _ _ h1 h2
 | nul => intro _; rw [renV]; exact .nul
 | undef x => intro _; rw [renV]; exact .undef _
theorem BR.outofL {ρ : List (Nat × Nat)} {n0 : Nat} (hF : FOK n0 n ρ) {B : LB} {m : Option Nat} (hB : BR c0 w' B m) (hf : flatB B) : BR (c.outer c0 ρ n0 n) w' (renB ρ n0 n B) m := by
 cases B with
 | pure sy l =>
  cases m with
  | none => exact hB
  | some r =>
   obtain ⟨cur,ty,h1,h2,h3⟩ := hB
   exact ⟨cur,ty,h1,h2,fun j u hu => (h3 j u hu).flat (hf u (List.mem_of_getElem? hu))⟩
 | mix l =>
  cases m with
  | none => have : l = [] := hB; subst this; rfl
  | some r =>
   obtain ⟨cur,ty,h1,h2,h3⟩ := hB
   refine ⟨cur,ty,h1,by rw [renVs_length]; exact h2,fun j u hu => ?_⟩
   rw [renVs_get] at hu
   cases e : l[j]? with
   | none => rw [e] at hu; cases hu
   | some v => rw [e] at hu; cases hu; exact (h3 j v e).outofL hF (flatVs_mem hf v (List.mem_of_getElem? e))
 | iter s p => cases m <;> exact hB
 | set l => cases m <;> exact hB
 | kv l vs => cases m <;> exact hB
 | frz l =>
  cases m with
  | none => exact hB
  | some r =>
   obtain ⟨cur,ty,fr,h1,h2,h3⟩ := hB
   exact ⟨cur,ty,fr,h1,h2,fun j u hu => (h3 j u hu).flat (hf u (List.mem_of_getElem? hu))⟩
 | fix g o => exact hf.elim
 | bld t l =>
  cases m with
  | none => exact hB
  | some r =>
   obtain ⟨cur,h1,h2,h0,h3⟩ := hB
   refine ⟨cur,h1,by rw [renVs_length]; exact h2,h0,fun j u hu => ?_⟩
   rw [renVs_get] at hu
   cases e : l[j]? with
   | none => rw [e] at hu; cases hu
   | some v => rw [e] at hu; cases hu; exact (h3 j v e).outofL hF (flatVs_mem hf v (List.mem_of_getElem? e))
theorem lends_get : ∀ {l m : List LV},lends h l m → l.length = m.length ∧ ∀ (j : Nat) (u' : LV),m[j]? = some u' → ∃ u,l[j]? = some u ∧ lendV h u u' ∧ ∀ b ∈ lent h [u],b ∈ lent h l
 | [],[],_ => ⟨rfl,fun j u' h => by simp at h⟩
 | x :: l,y :: m,hh => by
  rw [lends] at hh
  obtain ⟨h1,h2⟩ := lends_get hh.2
  refine ⟨by simp [h1],fun j u' hj => ?_⟩
  cases j with
  | zero =>
   simp at hj; subst hj
   refine ⟨x,rfl,hh.1,fun b hb => ?_⟩
   cases x <;> simp [lent] at hb ⊢
   exact .inl hb
  | succ j =>
   simp at hj
   obtain ⟨u,h3,h4,h5⟩ := h2 j u' hj
   refine ⟨u,by simpa using h3,h4,fun b hb => ?_⟩
   have := h5 b hb
   cases x <;> simp [lent] at this ⊢ <;> first | exact this | exact .inr this
 | [],_ :: _,hh => by simp [lends] at hh
 | _ :: _,[],hh => by simp [lends] at hh
theorem pre_get {l L : List PV} (h : l <+: L) {j : Nat} {u : PV} (hj : l[j]? = some u) : L[j]? = some u := by
 obtain ⟨t,rfl⟩ := h
 rw [List.getElem?_append_left (List.getElem?_eq_some_iff.1 hj).1]; exact hj
theorem PR.vles {M : Nat → Prop} {k k' : I} {sy sy' : Bool} {l l' : List PV} {x : Value} (h : PR M w (.vsl k sy l) x) (hk : k.val = k'.val) (hle : pvles l l') : PR M w (.vsl k' sy' l') x := by
 cases h with
 | vsl0 _ _ _ a c h0 hc => exact .vsl0 _ _ _ _ _ (hk ▸ h0) hc
 | vsl _ _ _ a n c f h0 hs hM hlt hkc hc hcell hrel =>
  obtain ⟨_,h2⟩ := pvles_get hle
  refine .vsl _ _ _ a n c f (hk ▸ h0) hs hM hlt hkc hc (fun j u hu => ?_) (fun j u hu => ?_)
  ·obtain ⟨v,h3,h4⟩ := h2 j u hu
   exact hcell j v h3
  ·obtain ⟨v,h3,h4⟩ := h2 j u hu
   exact (hrel j v h3).le h4
theorem LR.lendS (hr : HR c w h) (L : List Nat) {b e sz : Nat} {o k : I} {sy sy0 : Bool} {l L' : List PV} {x : Value} (hu : LR c w (.sl b e sz o k) x) (hb : hget h b = some (.pure sy L')) (hpre : l <+: L'.drop o.val.toNat) (hL : b ∈ L) : LR (c.lend L) w (.p (.vsl k sy0 l)) x := by
 obtain ⟨m,hm,hB⟩ := hr.live b _ hb
 refine .p _ _ ?_
 cases hu with
 | sl _ _ _ _ _ r j k2 cp tot hm2 ho hn hk hc hs ht =>
  rw [hm] at hm2; cases hm2
  have hj : o.val.toNat = j := by omega
  rw [hj] at hpre
  obtain ⟨cur,ty,g1,g2,g3⟩ := hB
  have get : ∀ (i : Nat) (u : PV),l[i]? = some u → L'[j + i]? = some u := fun i u hi => by
   have := pre_get hpre hi
   rwa [List.getElem?_drop] at this
  refine .vsl _ _ _ ⟨r,j,none⟩ k2 cp (fun i => cur.getD (j + i) Go.undef) hn rfl ?_ (hr.lt b r hm) hk hc (fun i u hi => ?_) (fun i u hi => (g3 _ u (get i u hi)).anti (lend_mut L))
  ·rintro (h1 | h1)
   ·exact h1.2 b hL hm
   ·exact lend_own L _ h1
  ·have hlt := (List.getElem?_eq_some_iff.1 (get i u hi)).1
   rw [add_lit]
   simp only [World.cell?,g1]
   rw [Array.getD_eq_getD_getElem?,Array.getElem?_eq_getElem (by omega : j + i < cur.size)]; rfl
 | slv _ _ _ _ _ hm2 ho hn => exact .vsl0 _ _ _ none 0 hn (Nat.zero_le _)
 | slz _ _ _ _ _ ad _ _ _ _ hn => exact .vsl0 _ _ _ ad 0 hn (Nat.zero_le _)
 | goneS _ _ _ _ _ a k2 cp hm2 hb2 => rw [hm] at hm2; cases hm2
theorem LR.lendL (hr : HR c w h) (L : List Nat) {u u' : LV} {x : Value} (hu : LR c w u x) (hl : lendV h u u') (hL : ∀ b ∈ lent h [u],b ∈ L) : LR (c.lend L) w u' x := by
 unfold lendV at hl
 split at hl
 ·rename_i b e sz o k k' sy0 l
  obtain ⟨hk,sy,L',hb,hpre⟩ := hl
  have hb0 : b ∈ L := hL b (by simp [lent])
  rcases hpre with hpre | ⟨l0,hpre,hle⟩
  ·exact (hu.lendS hr L hb hpre hb0 (sy0 := sy0)).ale ⟨hk,rfl⟩
  ·have h1 := hu.lendS hr L hb hpre hb0 (sy0 := sy0)
   cases h1 with
   | p _ _ hp => exact .p _ _ (hp.vles hk hle)
 ·cases hu with
  | p v x hv => exact .p _ _ ((hv.anti (lend_mut L)).le hl)
 ·exact hl.elim
theorem callF_lend {P : Unit → Program} {f : Nat} {args0 args : List LV} {K0 K : LV → LH → Nat → Prop} (hc : CallF P f args0 [] 0 K0) (hle : lends h args args0) (hfl : ∀ r h' n',K0 r h' n' → flatV r ∧ flatH h')
  (hK : ∀ r h' n',K0 r h' n' → K (renV [] 0 n r) (frameH [] 0 n h h') (n + n')) : CallF P f args h n K := by
 cases hc with
 | mk h1 h2 =>
  refine .mk h1 fun c w xs hr hN hl hrel => ?_
  obtain ⟨g1,g2⟩ := lends_get hle
  have hri : HR (c.lend (lent h args)) w [] := by
   refine ⟨fun a A ha => (by cases ha),fun _ _ => rfl,fun a a' r e1 e2 => (by cases e1),fun a r e1 => (by cases e1),fun r hx => ?_,fun a r e1 => (by cases e1)⟩
   rcases hx.1 with hx | ⟨b,hb⟩
   ·exact hr.ltX r hx
   ·exact hr.lt b r hb
  refine (h2 (c.lend (lent h args)) w xs hri rfl (g1.symm.trans hl) fun i u hu => ?_).mono fun e w' hh => ?_
  ·obtain ⟨v,k1,k2,k3⟩ := g2 i u hu
   exact (hrel i v k1).lendL hr _ k2 k3
  obtain ⟨c0,r,v,h0',n0',rfl,hKr,hr0,hn0',hv,he⟩ := hh
  obtain ⟨f1,f2⟩ := hfl _ _ _ hKr
  have old : ∀ r,r < w.heap.size → w'.heap[r]? = w.heap[r]? := fun r hlt => he.same r hlt (lend_own _ r)
  have newr : ∀ a r,c0.m a = some (some r) → w.heap.size ≤ r := fun a r h => by
   rcases he.new a r (Nat.zero_le _) h with g | g
   ·exact g
   ·exact (lend_own _ r g).elim
  have hF : FOK 0 n [] := fok0
  have hext : Ext c w (c.outer c0 [] 0 n) w' := by
   refine ⟨he.os,he.tape,he.output,he.size,rfl,by show c.N ≤ n + (c0.N - 0); omega,fun b hb => .inl (outer_old hF rfl (by omega)),fun b r hb hbm => ?_,fun r hlt _ => old r hlt,fun b r hb hbm => ?_⟩
   ·rcases outer_cases (c := c) (c0 := c0) hF b with ⟨a,k1,k2⟩ | ⟨k1,k2,k3⟩
    ·rw [k2] at hbm; exact .inl (newr a r hbm)
    ·omega
   ·rw [outer_old hF rfl (by omega)] at hbm
    simp only [World.shape?,old r (hr.lt b r hbm)]
  refine ⟨c.outer c0 [] 0 n,_,v,_,_,rfl,hK r h0' n0' hKr,⟨fun b B hb => ?_,fun b hb => ?_,fun b b' r e1 e2 => ?_,fun b r e1 hx => ?_,fun r hx => ?_,fun b r e1 => ?_⟩,by show n + (c0.N - 0) = _; rw [hn0']; rfl,hv.outofL fok0 f1,hext⟩
  ·rw [frameH,hget_happ] at hb
   cases e : hget (renH [] 0 n h0') b with
   | some B' =>
    rw [e] at hb; cases hb
    obtain ⟨a,A,k1,k2,rfl⟩ := hget_renH hF h0' b _ e
    obtain ⟨m,k3,k4⟩ := hr0.live a A k2
    exact ⟨m,(outer_rn hF k1).trans k3,k4.outofL fok0 (flatH_get f2 a A k2)⟩
   | none =>
    rw [e] at hb
    obtain ⟨m,k3,k4⟩ := hr.live b B hb
    exact ⟨m,(outer_old hF rfl (by have := live_lt hr.fresh k3; omega)).trans k3,k4.ext hr.fresh hext fun r hmr => old r (hr.lt b r (by rw [k3,hmr]))⟩
  ·have hb : n + (c0.N - 0) ≤ b := hb
   rcases outer_cases (c := c) (c0 := c0) hF b with ⟨a,k1,k2⟩ | ⟨k1,k2,k3⟩
   ·rw [k2]
    refine hr0.fresh a ?_
    rcases Nat.lt_or_ge a c0.N with g | g
    ·have := rn_lt hF k1 g; omega
    ·exact g
   ·omega
  ·rcases outer_cases (c := c) (c0 := c0) hF b with ⟨a,k1,k2⟩ | ⟨k1,k2,k3⟩ <;> rcases outer_cases (c := c) (c0 := c0) hF b' with ⟨a',g1,g2⟩ | ⟨g1,g2,g3⟩
   ·rw [k2] at e1; rw [g2] at e2
    have := hr0.inj a a' r e1 e2
    subst this
    rw [k1] at g1; cases g1; rfl
   ·rw [k2] at e1; rw [g3] at e2
    have := newr a r e1; have := hr.lt b' r e2; omega
   ·rw [k3] at e1; rw [g2] at e2
    have := newr a' r e2; have := hr.lt b r e1; omega
   ·rw [k3] at e1; rw [g3] at e2
    exact hr.inj b b' r e1 e2
  ·have hx : c.X r := hx
   rcases outer_cases (c := c) (c0 := c0) hF b with ⟨a,k1,k2⟩ | ⟨k1,k2,k3⟩
   ·rw [k2] at e1
    have := newr a r e1; have := hr.ltX r hx; omega
   ·rw [k3] at e1
    exact hr.noX b r e1 hx
  ·exact Nat.lt_of_lt_of_le (hr.ltX r hx) he.size
  ·rcases outer_cases (c := c) (c0 := c0) hF b with ⟨a,k1,k2⟩ | ⟨k1,k2,k3⟩
   ·rw [k2] at e1; exact hr0.lt a r e1
   ·rw [k3] at e1; exact Nat.lt_of_lt_of_le (hr.lt b r e1) he.size
end
end Go.LX
namespace Go.LX
open Go
set_option linter.unusedVariables false
set_option maxHeartbeats 32000000
def isX (o : Oper) : Bool :=
 match o.op with
 | .call c => match c.callee with
  | .value _ => true
  | .builtin b => match b with
   | .append => true
   | .clear => true
   | .copy => true
   | _ => false
  | _ => false
 | .store _ _ _ => true
 | .alloc _ => true
 | .box _ _ => true
 | .buildSlice _ _ _ => true
 | .makeMap _ _ => true
 | .mapUpdate _ _ _ _ => true
 | _ => false
section
variable {P : Unit → Program} {T : Unit → TT} {o : Oper} {s : LS} {K : LS → Prop}
theorem upd_m {l : Unit → List PV} {L L' : List PV → Prop} (h : Upd l L) (hL : ∀ z,L z → L' z) : Upd l L' := by
 cases h with | mk hk => exact .mk fun l' hl => hL _ (hk l' hl)
theorem need_m {p : Unit → Prop} {L L' : Unit → Prop} (h : Need p L) (hL : L () → L' ()) : Need p L' := by
 cases h with | mk hp hk => exact .mk hp (hL hk)
theorem storeB_m {B : LB} {o : I} {vs : List LV} {L L' : LB → Prop} (h : storeB B o vs L) (hL : ∀ B',L B' → L' B') : storeB B o vs L' := by
 unfold storeB at h ⊢
 split at h
 ·exact h.elim
 ·rename_i ha
  cases B with
  | iter z p => exact h.elim
  | set l => exact h.elim
  | kv l vs => exact h.elim
  | frz l => exact h.elim
  | fix g o => exact h.elim
  | bld t l =>
   dsimp only at h ⊢
   split at h
   ·rename_i n
    cases e : putM l n vs with
    | none => rw [e] at h; exact h.elim
    | some l' => rw [e] at h; exact hL _ h
   ·split at h
    ·exact hL _ h
    ·exact h.elim
   ·exact h.elim
  | mix l =>
   cases o with
   | sym n =>
    cases h with
    | mk j hj h =>
     refine .mk j hj ?_
     cases e : putM l j vs with
     | none => rw [e] at h; exact h.elim
     | some l' => rw [e] at h; exact hL _ h
   | lit n =>
    dsimp only at h ⊢
    cases e : putM l n.toNat vs with
    | none => rw [e] at h; exact h.elim
    | some l' => rw [e] at h; exact hL _ h
  | pure sy l =>
   dsimp only at h ⊢
   cases e : allP vs with
   | some us =>
    rw [e] at h
    dsimp only at h ⊢
    cases sy with
    | true => exact need_m h fun h => upd_m h fun z h => hL _ h
    | false =>
     cases o with
     | sym n => exact need_m h fun h => upd_m h fun z h => hL _ h
     | lit n =>
      dsimp only at h ⊢
      cases e2 : putP l n.toNat us with
      | none => rw [e2] at h; exact h.elim
      | some l' => rw [e2] at h; exact hL _ h
   | none =>
    rw [e] at h
    dsimp only at h ⊢
    cases sy with
    | true => exact h.elim
    | false =>
     cases o with
     | sym n =>
      cases h with
      | mk j hj h =>
       refine .mk j hj ?_
       cases e2 : putM (pvs l) j vs with
       | none => rw [e2] at h; exact h.elim
       | some l' => rw [e2] at h; exact hL _ h
     | lit n =>
      dsimp only at h ⊢
      cases e2 : putM (pvs l) n.toNat vs with
      | none => rw [e2] at h; exact h.elim
      | some l' => rw [e2] at h; exact hL _ h
theorem put_with (d : Option Nat) (u : LV) (h : LH) (n : Nat) : ({ s.put d u with h := h,n := n } : LS) = ({ s with h := h,n := n } : LS).put d u := by cases d <;> rfl
theorem put_n (d : Option Nat) (v : LV) : (s.put d v).n = s.n := by cases d <;> rfl
def Slots (o : Oper) (s s1 : LS) : Prop := ∀ t,o.dst ≠ some t → tget s1.t t = tget s.t t
theorem slots_put (v : LV) (h : LH) (n : Nat) : Slots o s (({ s with h := h,n := n } : LS).put o.dst v) := fun t ht => tget_put (s := { s with h := h,n := n }) _ _ _ ht
theorem ev_put {d : Option Nat} {u : LV} {x : Operand} (hx : ∀ t,d = some t → x ≠ .tmp t) : ev (s.put d u) x = ev s x := by
 cases x with
 | tmp t => exact tget_put _ _ _ fun e => hx t e rfl
 | const v => rfl
 | global g => rfl
 | func f => rfl
theorem eva_put {d : Option Nat} {u : LV} : ∀ (l : List Operand),(∀ x ∈ l,ev (s.put d u) x = ev s x) → eva (s.put d u) l = eva s l
 | [],_ => rfl
 | x :: l,h => by rw [eva,eva,h x List.mem_cons_self,eva_put l fun y hy => h y (List.mem_cons_of_mem _ hy)]
theorem evs_put {d : Option Nat} {u : LV} : ∀ (l : List (Nat × Operand)),(∀ x ∈ l,ev (s.put d u) x.2 = ev s x.2) → evs (s.put d u) l = evs s l
 | [],_ => rfl
 | (i,x) :: l,h => by rw [evs,evs,h (i,x) List.mem_cons_self,evs_put l fun y hy => h y (List.mem_cons_of_mem _ hy)]
theorem room_m {p q : Unit → Prop} {L1 L2 L1' L2' : Unit → Prop} (h : Room p q L1 L2) (h1 : L1 () → L1' ()) (h2 : L2 () → L2' ()) : Room p q L1' L2' := by
 cases h with
 | new h k => exact .new h (h1 k)
 | within h k => exact .within h (h2 k)
theorem catL_m {sa sb : Bool} {a b : List PV} {L L' : Bool → List PV → Prop} (h : catL sa sb a b L) (hL : ∀ sc l,L sc l → L' sc l) : catL sa sb a b L' := by
 unfold catL at h ⊢
 split at h
 ·exact hL _ _ h
 ·exact upd_m h fun l h => hL _ _ h
theorem iadd_m {x y : I} {L L' : I → Prop} (h : iadd x y L) (hL : ∀ z,L z → L' z) : iadd x y L' := by
 obtain ⟨z,h1,h2⟩ := iadd_x h
 exact h2 L' (hL z h1)
theorem appendC_gen {d : Option Nat} {u : LV} {e : Nat} {te : TI} {sb : Bool} {b : List PV} {m : I} {x : LV} {L L' : LV → LS → Prop} (h : appendC (s.put d u) e te sb b m x L)
  (hL : ∀ r h' n',L r ({ s.put d u with h := h',n := n' } : LS) → L' r ({ s with h := h',n := n' } : LS)) : appendC s e te sb b m x L' := by
 unfold appendC at h ⊢
 simp only [LS.new,put_h,put_n] at h ⊢
 split at h
 ·exact need_m h fun h => hL _ _ _ h
 ·split at h
  ·split at h
   ·refine room_m h (fun h => ?_) (fun h => ?_)
    ·exact catL_m h fun sc l h => iadd_m h fun k h => hL _ _ _ h
    ·exact upd_m h fun l h => iadd_m h fun k h => hL _ _ s.n h
   ·exact h.elim
  ·exact h.elim
 ·exact h.elim
theorem appendO_gen {d : Option Nat} {u : LV} {e : Nat} {te : TI} {b : List PV} {m : I} {x : LV} {L L' : LV → LS → Prop} (h : appendO (s.put d u) e te b m x L)
  (hL : ∀ r h' n',L r ({ s.put d u with h := h',n := n' } : LS) → L' r ({ s with h := h',n := n' } : LS)) : appendO s e te b m x L' := by
 unfold appendO at h ⊢
 simp only [put_h,put_n] at h ⊢
 split at h
 ·split at h
  ·split at h
   ·exact need_m h fun h => ⟨upd_m h.1 fun l h => iadd_m h fun k h => hL _ _ s.n h,upd_m h.2 fun l h => iadd_m h fun k h => hL _ _ _ h⟩
   ·exact h.elim
  ·exact h.elim
 ·exact h.elim
theorem newCells_m {te : TI} {y : LV} {L L' : Bool → List PV → I → Prop} (h : newCells s te y L) (hL : ∀ a b c,L a b c → L' a b c) : newCells s te y L' := by
 unfold newCells at h ⊢
 split at h
 ·exact hL _ _ _ h
 ·exact need_m h fun h => hL _ _ _ h
 ·split at h
  ·split at h
   ·split at h
    ·exact room_m h (fun h => hL _ _ _ h) (fun h => upd_m h fun l h => hL _ _ _ h)
    ·exact need_m h fun h => upd_m h fun l h => hL _ _ _ h
   ·exact need_m h fun h => upd_m h fun l h => hL _ _ _ h
  ·exact h.elim
 ·split at h
  ·split at h
   ·split at h
    ·exact hL _ _ _ h
    ·exact h.elim
   ·exact h.elim
  ·exact h.elim
 ·exact h.elim
theorem newCells_put {d : Option Nat} {u : LV} {te : TI} {y : LV} {L : Bool → List PV → I → Prop} (h : newCells (s.put d u) te y L) : newCells s te y L := by
 unfold newCells at h ⊢
 simp only [put_h] at h
 exact h
theorem appendL_gen {d : Option Nat} {u : LV} {e : Nat} {te : TI} {x y : LV} {L L' : LV → LS → Prop} (h : appendL (s.put d u) e te x y L)
  (hL : ∀ r h' n',L r ({ s.put d u with h := h',n := n' } : LS) → L' r ({ s with h := h',n := n' } : LS)) : appendL s e te x y L' := by
 unfold appendL at h ⊢
 split at h
 ·exact newCells_m (newCells_put h) fun a b c h => by
   split at h
   ·exact appendO_gen h hL
   ·exact appendC_gen h hL
 ·exact h.elim
theorem sum_m {p : Unit → Int} {L L' : I → Prop} (h : Sum p L) (hL : ∀ z,L z → L' z) : Sum p L' := by
 obtain ⟨z,h1,h2⟩ := sum_x h
 exact h2 L' (hL z h1)
theorem appendS_gen {d : Option Nat} {u : LV} {e : Nat} {te : TI} {x y : LV} {L L' : LV → LS → Prop} (h : appendS (s.put d u) e te x y L)
  (hL : ∀ r h' n',L r ({ s.put d u with h := h',n := n' } : LS) → L' r ({ s with h := h',n := n' } : LS)) : appendS s e te x y L' := by
 unfold appendS at h ⊢
 split at h
 ·split at h
  ·exact need_m h fun h => upd_m h fun l h => sum_m h fun m h => appendC_gen h hL
  ·exact h.elim
 ·exact h.elim
theorem clearL_gen {d : Option Nat} {u : LV} {te : TI} {x : LV} {L L' : LS → Prop} (h : clearL (s.put d u) te x L)
  (hL : ∀ h' n',L ({ s.put d u with h := h',n := n' } : LS) → L' ({ s with h := h',n := n' } : LS)) : clearL s te x L' := by
 unfold clearL at h ⊢
 split at h
 ·split at h
  ·exact hL (s.put d u).h (s.put d u).n h |> fun h => by simpa [put_h,put_n] using h
  ·exact need_m h fun h => hL (s.put d u).h (s.put d u).n h |> fun h => by simpa [put_h,put_n] using h
  ·rw [put_h] at h
   split at h
   ·exact need_m h fun h => upd_m h fun l h => hL _ (s.put d u).n h |> fun h => by simpa [put_h,put_n] using h
   ·exact h.elim
  ·exact h.elim
 ·exact h.elim
theorem getP_m {sy : Bool} {l : List PV} {o : I} (k j : Nat) {L L' : List LV → Prop} (h : getP sy l o k j L) (hL : ∀ z,L z → L' z) : getP sy l o k j L' := by
 obtain ⟨vs,h1,h2⟩ := getP_x _ _ h
 exact h2 L' (hL _ h1)
theorem copyL_gen {d : Option Nat} {u : LV} {te : TI} {x y : LV} {L L' : I → LS → Prop} (h : copyL (s.put d u) te x y L)
  (hL : ∀ z h' n',L z ({ s.put d u with h := h',n := n' } : LS) → L' z ({ s with h := h',n := n' } : LS)) : copyL s te x y L' := by
 have hL2 : ∀ z h',L z ({ s.put d u with h := h' } : LS) → L' z ({ s with h := h' } : LS) := fun z h' k => hL z h' s.n (by
  have e : ({ s.put d u with h := h',n := s.n } : LS) = { s.put d u with h := h' } := by rw [← put_n d u]
  rw [e]; exact k)
 unfold copyL at h ⊢
 simp only [put_h] at h
 split at h
 ·split at h
  ·split at h
   ·exact need_m h fun h => getP_m _ _ h fun vs h => storeB_m h fun B' h => hL2 _ _ h
   ·split at h
    ·exact need_m h fun h => getP_m _ _ h fun vs h => storeB_m h fun B' h => hL2 _ _ h
    ·exact h.elim
   ·exact h.elim
  ·exact h.elim
 ·exact h.elim
theorem updI_m {l : Unit → List Int} {L L' : List Int → Prop} (h : UpdI l L) (hL : ∀ z,L z → L' z) : UpdI l L' := by
 cases h with | mk hk => exact .mk fun l' hl => hL _ (hk l' hl)
theorem intoL_gen {d : Option Nat} {u : LV} {T : TT} {k : Nat} {x i v : LV} {L L' : LS → Prop} (h : intoL T (s.put d u) k x i v L)
  (hL : ∀ h' n',L ({ s.put d u with h := h',n := n' } : LS) → L' ({ s with h := h',n := n' } : LS)) : intoL T s k x i v L' := by
 have hL2 : ∀ h',L ({ s.put d u with h := h' } : LS) → L' ({ s with h := h' } : LS) := fun h' k => hL h' s.n (by
  have e : ({ s.put d u with h := h',n := s.n } : LS) = { s.put d u with h := h' } := by rw [← put_n d u]
  rw [e]; exact k)
 unfold intoL at h ⊢
 simp only [put_h] at h
 split at h
 ·split at h
  ·split at h
   ·split at h
    ·exact need_m h fun h => updI_m h fun l h => hL2 _ h
    ·exact h.elim
   ·exact h.elim
  ·unfold intoV at h ⊢
   simp only [put_h] at h
   split at h
   ·split at h
    ·exact need_m h fun h => hL2 _ h
    ·exact h.elim
   ·exact h.elim
  ·exact h.elim
 ·exact h.elim
theorem lop_slot {d : Option Nat} {u : LV} (hX : isX o = true) (hev : ∀ x ∈ o.op.operands,ev (s.put d u) x = ev s x) (hd : ∀ t,d = some t → o.dst ≠ some t) {R : LS → Prop} (h : lop P T o (s.put d u) R) :
  lop P T o s fun s1 => Slots o s s1 ∧ R (s1.put d u) := by
 obtain ⟨dst,op,ty,pos,after,guard⟩ := o
 have fin : ∀ {v : LV} {h' : LH} {n' : Nat},R (({ s.put d u with h := h',n := n' } : LS).put dst v) → Slots ⟨dst,op,ty,pos,after,guard⟩ s (({ s with h := h',n := n' } : LS).put dst v) ∧ R ((({ s with h := h',n := n' } : LS).put dst v).put d u) := by
  intro v h' n' hR
  refine ⟨slots_put (o := ⟨dst,op,ty,pos,after,guard⟩) v h' n',?_⟩
  rw [put_with,put_comm _ _ _ _ hd] at hR
  exact hR
 cases op <;> simp only [isX,Bool.false_eq_true] at hX
 case alloc t =>
  simp only [lop] at h ⊢
  split at h
  ·rename_i ti ht
   simp only [LS.new,put_h,put_n] at h ⊢
   split at h
   ·split at h
    ·exact fin h
    ·exact h.elim
   ·exact fin h
  ·exact h.elim
 case box t x =>
  have e1 := hev x (by simp [Op.operands])
  simp only [lop] at h ⊢
  rw [e1] at h
  split at h
  ·simp only [LS.new,put_h,put_n] at h ⊢
   exact fin h
  ·exact h.elim
 case buildSlice t len parts =>
  have e1 := evs_put (d := d) (u := u) parts.toList (fun x hx => hev x.2 (by simp only [Op.operands]; first | exact Array.mem_map.2 ⟨x,by simpa using hx,rfl⟩ | exact List.mem_map.2 ⟨x,by simpa using hx,rfl⟩ | (simp; exact ⟨x.1,by simpa using hx⟩)))
  simp only [lop] at h ⊢
  rw [e1] at h
  split at h
  ·split at h
   ·split at h
    ·split at h
     ·split at h
      ·simp only [LS.new,put_h,put_n] at h ⊢
       exact fin h
      ·exact h.elim
     ·exact h.elim
    ·exact h.elim
   ·exact h.elim
  ·exact h.elim
 case makeMap t r =>
  simp only [lop] at h ⊢
  split at h
  ·simp only [LS.new,put_h,put_n] at h ⊢
   exact fin h
  ·exact h.elim
 case mapUpdate t x i v =>
  have e1 := hev x (by simp [Op.operands])
  have e2 := hev i (by simp [Op.operands])
  have e3 := hev v (by simp [Op.operands])
  simp only [lop] at h ⊢
  rw [e1,e2,e3] at h
  split at h
  ·exact intoL_gen h fun h' n' hk => fin hk
  ·exact h.elim
 case store t x v =>
  have e1 := hev x (by simp [Op.operands])
  have e2 := hev v (by simp [Op.operands])
  simp only [lop] at h ⊢
  rw [e1,e2] at h
  split at h
  ·rename_i ti ht
   split at h
   ·rename_i b o' hx
    split at h
    ·rename_i h1 h2
     rw [put_h] at h
     split at h
     ·rename_i B hB
      exact storeB_m h fun B' h' => fin (h' := hset s.h b B') (n' := s.n) (by
                                          have : ({ s.put d u with h := hset s.h b B',n := s.n } : LS) = { s.put d u with h := hset s.h b B' } := by rw [← put_n d u]
                                          rw [this]; exact h')
     ·exact h.elim
    ·rename_i h1 h2
     rw [put_h] at h
     split at h
     ·rename_i sy l hB
      exact fin (h' := s.h) (n' := s.n) (by
                         have e : ({ s.put d u with h := s.h,n := s.n } : LS) = s.put d u := by cases d <;> rfl
                         rw [e]; exact h)
     ·exact h.elim
    ·exact h.elim
   ·exact h.elim
  ·exact h.elim
 case call c =>
  have e2 : eva (s.put d u) c.args.toList = eva s c.args.toList := eva_put _ fun x hx => hev x (by
   have hx : x ∈ c.args := by simpa using hx
   simp only [Op.operands,Call.operands]
   split <;> simp [hx])
  simp only [lop] at h ⊢
  cases hc : c.callee with
  | value f =>
   have e1 := hev f (by simp [Op.operands,Call.operands,hc])
   rw [hc] at h
   dsimp only at h ⊢
   rw [e1,e2,put_h,put_n] at h
   split at h
   ·exact h.mono fun r h' n' hk => fin hk
   ·exact h.mono fun r h' n' hk => fin hk
   ·exact h.elim
  | builtin b =>
   rw [hc] at hX h
   cases b <;> try (cases hX; done)
   case append =>
    dsimp only at h ⊢
    rw [e2] at h
    split at h
    case h_2 =>
     split at h
     ·split at h
      ·split at h
       ·split at h
        ·exact appendL_gen h fun r h' n' hk => fin hk
        ·exact h.elim
       ·exact h.elim
      ·split at h
       ·split at h
        ·exact appendS_gen h fun r h' n' hk => fin hk
        ·exact h.elim
       ·exact h.elim
      ·exact h.elim
     ·exact h.elim
    all_goals first | exact h.elim | (rename_i e9 _; cases e9) | (rename_i e9; cases e9)
   case copy =>
    dsimp only at h ⊢
    rw [e2] at h
    split at h
    case h_6 =>
     split at h
     ·split at h
      ·split at h
       ·split at h
        ·exact copyL_gen h fun z h' n' hk => fin hk
        ·exact h.elim
       ·exact h.elim
      ·exact h.elim
     ·exact h.elim
    all_goals first | exact h.elim | (rename_i e9 _; cases e9) | (rename_i e9; cases e9)
   case clear =>
    dsimp only at h ⊢
    rw [e2] at h
    split at h
    case h_7 =>
     split at h
     ·split at h
      ·split at h
       ·split at h
        ·exact clearL_gen h fun h' n' hk => fin hk
        ·exact h.elim
       ·exact h.elim
      ·exact h.elim
     ·exact h.elim
    all_goals first | exact h.elim | (rename_i e9 _; cases e9) | (rename_i e9; cases e9)
  | _ => rw [hc] at hX; cases hX
theorem lop_m (hX : isX o = true) {R R' : LS → Prop} (h : lop P T o s R) (hR : ∀ s1,R s1 → R' s1) : lop P T o s R' := by
 have := lop_slot (d := none) (u := .undef) hX (fun _ _ => rfl) (fun _ h => by cases h) (R := R) h
 obtain ⟨dst,op,ty,pos,after,guard⟩ := o
 cases op <;> simp only [isX,Bool.false_eq_true] at hX
 case alloc t =>
  simp only [lop] at h ⊢
  split at h
  ·split at h
   ·split at h
    ·exact hR _ h
    ·exact h.elim
   ·exact hR _ h
  ·exact h.elim
 case box t x =>
  simp only [lop] at h ⊢
  split at h
  ·exact hR _ h
  ·exact h.elim
 case buildSlice t len parts =>
  simp only [lop] at h ⊢
  split at h
  ·split at h
   ·split at h
    ·split at h
     ·split at h
      ·exact hR _ h
      ·exact h.elim
     ·exact h.elim
    ·exact h.elim
   ·exact h.elim
  ·exact h.elim
 case makeMap t r =>
  simp only [lop] at h ⊢
  split at h
  ·exact hR _ h
  ·exact h.elim
 case mapUpdate t x i v =>
  simp only [lop] at h ⊢
  split at h
  ·exact intoL_gen (d := none) (u := .undef) h fun h' n' hk => hR _ hk
  ·exact h.elim
 case store t x v =>
  simp only [lop] at h ⊢
  split at h
  ·split at h
   ·split at h
    ·split at h
     ·exact storeB_m h fun B' h' => hR _ h'
     ·exact h.elim
    ·split at h
     ·exact hR _ h
     ·exact h.elim
    ·exact h.elim
   ·exact h.elim
  ·exact h.elim
 case call c =>
  simp only [lop] at h ⊢
  cases hc : c.callee with
  | value f =>
   rw [hc] at h
   dsimp only at h ⊢
   split at h
   ·exact h.mono fun r h' n' hk => hR _ hk
   ·exact h.mono fun r h' n' hk => hR _ hk
   ·exact h.elim
  | builtin b =>
   rw [hc] at hX h
   cases b <;> try (cases hX; done)
   case append =>
    dsimp only at h ⊢
    split at h
    case h_2 =>
     split at h
     ·split at h
      ·split at h
       ·split at h
        ·exact appendL_gen (d := none) (u := .undef) h fun r h' n' hk => hR _ hk
        ·exact h.elim
       ·exact h.elim
      ·split at h
       ·split at h
        ·exact appendS_gen (d := none) (u := .undef) h fun r h' n' hk => hR _ hk
        ·exact h.elim
       ·exact h.elim
      ·exact h.elim
     ·exact h.elim
    all_goals first | exact h.elim | (rename_i e9 _; cases e9) | (rename_i e9; cases e9)
   case copy =>
    dsimp only at h ⊢
    split at h
    case h_6 =>
     split at h
     ·split at h
      ·split at h
       ·split at h
        ·exact copyL_gen (d := none) (u := .undef) h fun z h' n' hk => hR _ hk
        ·exact h.elim
       ·exact h.elim
      ·exact h.elim
     ·exact h.elim
    all_goals first | exact h.elim | (rename_i e9 _; cases e9) | (rename_i e9; cases e9)
   case clear =>
    dsimp only at h ⊢
    split at h
    case h_7 =>
     split at h
     ·split at h
      ·split at h
       ·split at h
        ·exact clearL_gen (d := none) (u := .undef) h fun h' n' hk => hR _ hk
        ·exact h.elim
       ·exact h.elim
      ·exact h.elim
     ·exact h.elim
    all_goals first | exact h.elim | (rename_i e9 _; cases e9) | (rename_i e9; cases e9)
  | _ => rw [hc] at hX; cases hX
def keptL : List Nat → LS → LS → Prop
 | [],_,_ => True
 | b :: l,s,s1 => hget s1.h b = hget s.h b ∧ keptL l s s1
def look : List (Nat × List Nat) → Nat → List Nat
 | [],_ => []
 | (a,l) :: F,q => match Nat.beq a q with
  | true => l
  | false => look F q
def keptB (ops : Array Oper) : List Nat → LS → LS → Prop
 | [],_,_ => True
 | p :: fl,s,s1 => keptL (rds (opAt ops p) s) s s1 ∧ keptB ops fl s s1
def lopsG (P : Unit → Program) (T : Unit → TT) (ops : Array Oper) (F : List (Nat × List Nat)) : List Nat → LS → (LS → Prop) → Prop
 | [],s,K => K s
 | i :: l,s,K => match isA (opAt ops i) with
  | true => stepL P T ops.toList (opAt ops i) s fun s1 => lopsG P T ops F l s1 K
  | false => stepL P T ops.toList (opAt ops i) s fun s1 => keptB ops (look F i) s s1 ∧ lopsG P T ops F l s1 K
theorem keptL_get : ∀ {l : List Nat} {s s1 : LS},keptL l s s1 → ∀ b ∈ l,hget s1.h b = hget s.h b
 | [],_,_,_,b,h => by cases h
 | x :: l,s,s1,h,b,hb => by
  rcases List.mem_cons.1 hb with rfl | hb
  ·exact h.1
  ·exact keptL_get h.2 b hb
theorem keptL_mk : ∀ {l : List Nat} {s s1 : LS},(∀ b ∈ l,hget s1.h b = hget s.h b) → keptL l s s1
 | [],_,_,_ => trivial
 | x :: l,s,s1,h => ⟨h x List.mem_cons_self,keptL_mk fun b hb => h b (List.mem_cons_of_mem _ hb)⟩
theorem keptB_get {ops : Array Oper} : ∀ {fl : List Nat} {s s1 : LS},keptB ops fl s s1 → ∀ p ∈ fl,keptL (rds (opAt ops p) s) s s1
 | [],_,_,_,p,h => by cases h
 | x :: l,s,s1,h,p,hp => by
  rcases List.mem_cons.1 hp with rfl | hp
  ·exact h.1
  ·exact keptB_get h.2 p hp
theorem stepL_m {all : List Oper} (hX : isX o = true ∨ isA o = true) {R R' : LS → Prop} (h : stepL P T all o s R) (hR : ∀ s1,R s1 → R' s1) : stepL P T all o s R' := by
 rcases hX with hX | hX
 ·unfold stepL at h ⊢
  split at h
  ·split at h
   ·exact lop_m hX h hR
   ·exact hR _ h
  ·exact h.elim
 ·unfold stepL at h ⊢
  split at h
  ·split at h
   ·obtain ⟨u,h1,h2⟩ := lop_x hX h
    exact h2 s ⟨fun _ _ => rfl,fun _ _ => rfl⟩ _ (hR _ h1)
   ·exact hR _ h
  ·exact h.elim
def known (ops : Array Oper) (i : Nat) : Prop := isX (opAt ops i) = true ∨ isA (opAt ops i) = true
def pairOK (ops : Array Oper) (F : List (Nat × List Nat)) (p q : Nat) : Bool :=
 p != q && (reach ops ops.size p q || (isA (opAt ops p) && (opAt ops p).apart ops (opAt ops q) && (isA (opAt ops q) || (look F q).contains p))) && (!(F.any fun e => e.2.contains p && e.2.contains q) || match (opAt ops q).dst with
  | some d => !isA (opAt ops p) || !isA (opAt ops q) || !((opAt ops p).looksAt ops).contains d
  | none => true)
theorem look_any : ∀ {F : List (Nat × List Nat)} {i p q : Nat},p ∈ look F i → q ∈ look F i → (F.any fun e => e.2.contains p && e.2.contains q) = true
 | [],i,p,q,h,_ => by cases h
 | (a,l) :: F,i,p,q,hp,hq => by
  rw [look] at hp hq
  rw [List.any_cons,Bool.or_eq_true]
  cases e : Nat.beq a i with
  | true =>
   rw [e] at hp hq
   left
   rw [Bool.and_eq_true]
   exact ⟨by simpa using hp,by simpa using hq⟩
  | false =>
   rw [e] at hp hq
   right
   exact look_any hp hq
def selfOK (ops : Array Oper) (q : Nat) : Bool :=
 (isX (opAt ops q) || isA (opAt ops q)) && (match (opAt ops q).dst with
  | some d => !((opAt ops q).looksAt ops).contains d
  | none => true)
def PairP (ops : Array Oper) (F : List (Nat × List Nat)) (p q : Nat) : Prop := p ≠ q ∧ (reach ops ops.size p q = true ∨ (isA (opAt ops p) = true ∧ (opAt ops p).apart ops (opAt ops q) = true ∧ (isA (opAt ops q) = true ∨ p ∈ look F q))) ∧ (∀ i,p ∈ look F i → q ∈ look F i → isA (opAt ops p) = true → isA (opAt ops q) = true → ∀ d,(opAt ops q).dst = some d → d ∉ (opAt ops p).looksAt ops)
theorem pairOK_spec {ops : Array Oper} {F : List (Nat × List Nat)} {p q : Nat} (h : pairOK ops F p q = true) : PairP ops F p q := by
 simp only [pairOK,Bool.and_eq_true,Bool.or_eq_true,bne_iff_ne,ne_eq] at h
 obtain ⟨⟨h1,h2⟩,h3⟩ := h
 refine ⟨h1,h2.imp id (fun h => ⟨h.1.1,h.1.2,h.2.imp id (fun h => by simpa using h)⟩),fun i hpi hqi hp hq d hd => ?_⟩
 rw [look_any hpi hqi,hd,hp,hq] at h3
 simpa using h3
theorem selfOK_spec {ops : Array Oper} {q : Nat} (h : selfOK ops q = true) : known ops q ∧ ∀ d,(opAt ops q).dst = some d → d ∉ (opAt ops q).looksAt ops := by
 simp only [selfOK,Bool.and_eq_true,Bool.or_eq_true] at h
 refine ⟨h.1,fun d hd => ?_⟩
 have := h.2
 rw [hd] at this
 simpa using this
theorem rds_put {ops : Array Oper} {p : Nat} {d : Option Nat} {u : LV} (hd : ∀ t,d = some t → t ∉ (opAt ops p).looksAt ops) : rds (opAt ops p) (s.put d u) = rds (opAt ops p) s := by
 unfold rds
 cases looksIn (opAt ops p) with
 | false => rfl
 | true =>
 dsimp only
 have : ∀ x ∈ (opAt ops p).op.operands.toList,rdN (ev (s.put d u) x) = rdN (ev s x) := by
  intro x hx
  rw [ev_put]
  rintro t ht rfl
  refine hd t ht ?_
  simp only [Oper.looksAt,List.mem_append,List.mem_filterMap]
  exact .inl ⟨.tmp t,hx,rfl⟩
 revert this
 generalize (opAt ops p).op.operands.toList = l
 intro this
 induction l with
 | nil => rfl
 | cons x l ih => rw [List.flatMap_cons,List.flatMap_cons,this x List.mem_cons_self,ih fun y hy => this y (List.mem_cons_of_mem _ hy)]
theorem step_slot {ops : Array Oper} {i : Nat} {d : Option Nat} {u : LV} (hX : isX (opAt ops i) = true) (h1 : ∀ t,d = some t → t ∉ (opAt ops i).looksAt ops) (h2 : ∀ t,d = some t → (opAt ops i).dst ≠ some t) {R : LS → Prop}
  (h : stepL P T ops.toList (opAt ops i) (s.put d u) R) : stepL P T ops.toList (opAt ops i) s fun s1 => Slots (opAt ops i) s s1 ∧ R (s1.put d u) := by
 have hag : AgreeS ops (opAt ops i) (s.put d u) s := ⟨fun _ _ => by rw [put_h],fun t ht => (tget_put _ _ _ fun e => h1 t e ht).symm⟩
 have hy := yes_of hag
 unfold stepL at h ⊢
 rw [hy]
 split at h
 ·split at h
  ·refine lop_slot hX (fun x hx => ev_put fun t ht e => ?_) h2 h
   refine h1 t ht ?_
   subst e
   simp only [Oper.looksAt,List.mem_append,List.mem_filterMap]
   exact .inl ⟨.tmp t,by simpa using hx,rfl⟩
  ·refine ⟨fun t ht => tget_put _ _ _ ht,?_⟩
   rw [put_comm _ _ _ _ h2] at h
   exact h
 ·exact h.elim
theorem front2 {ops : Array Oper} {F : List (Nat × List Nat)} {i : Nat} {l2 : List Nat} {K : LS → Prop} (hki : known ops i) :
  ∀ (l1 gh : List Nat) {s : LS},(∀ p ∈ l1,known ops p ∧ (∀ d,(opAt ops p).dst = some d → d ∉ (opAt ops p).looksAt ops)) → (∀ p ∈ l1,PairP ops F p i ∧ reach ops ops.size p i = false) → l1.Pairwise (PairP ops F) → (∀ p ∈ gh,p ∈ look F i ∧ isA (opAt ops p) = true ∧ ∀ q ∈ l1,PairP ops F p q) →
   lopsG P T ops F (l1 ++ i :: l2) s K → stepL P T ops.toList (opAt ops i) s fun s1 => (isA (opAt ops i) = false → ∀ p ∈ gh,keptL (rds (opAt ops p) s) s s1) ∧ lopsG P T ops F (l1 ++ l2) s1 K
 | [],gh,s,_,_,_,hgh,h => by
  rw [List.nil_append,lopsG] at h
  split at h
  ·rename_i hA
   exact stepL_m hki h fun s1 h1 => ⟨fun e => (by rw [hA] at e; cases e),h1⟩
  ·exact stepL_m hki h fun s1 h1 => ⟨fun _ p hp => keptB_get h1.1 p (hgh p hp).1,h1.2⟩
 | p :: l1,gh,s,hk,hi,hpw,hdn,h => by
  obtain ⟨hkp,hself⟩ := hk p List.mem_cons_self
  obtain ⟨⟨hpi1,hpi2,hpi3⟩,hnr⟩ := hi p List.mem_cons_self
  rw [List.pairwise_cons] at hpw
  obtain ⟨hA,hap,hfl⟩ : isA (opAt ops p) = true ∧ (opAt ops p).apart ops (opAt ops i) = true ∧ (isA (opAt ops i) = true ∨ p ∈ look F i) := by
   rcases hpi2 with e | e
   ·rw [hnr] at e; cases e
   ·exact e
  obtain ⟨a1,a2,a3⟩ := Oper.apart_spec hap
  rw [List.cons_append,lopsG] at h
  rw [hA] at h
  dsimp only at h
  obtain ⟨u,h1,hg⟩ := step_x hA h
  have next : ∀ {s1 : LS},AgreeS ops (opAt ops p) s s1 → lopsG P T ops F (l1 ++ l2) (s1.put (opAt ops p).dst u) K → lopsG P T ops F (p :: l1 ++ l2) s1 K := by
   intro s1 hag h2
   rw [List.cons_append,lopsG,hA]
   exact hg s1 hag _ h2
  have hkl : ∀ q ∈ l1,known ops q ∧ (∀ d,(opAt ops q).dst = some d → d ∉ (opAt ops q).looksAt ops) := fun q hq => hk q (List.mem_cons_of_mem _ hq)
  have hil : ∀ q ∈ l1,PairP ops F q i ∧ reach ops ops.size q i = false := fun q hq => hi q (List.mem_cons_of_mem _ hq)
  by_cases hAi : isA (opAt ops i) = true
  ·have ih := front2 hki l1 [] hkl hil hpw.2 (fun q hq => (by cases hq)) h1
   obtain ⟨v,h4,h5⟩ := step_x hAi ih
   refine h5 s ⟨fun _ _ => by rw [put_h],fun t ht => (tget_put _ _ _ (fun e => a1 t e ht)).symm⟩ _ ⟨fun e => (by rw [hAi] at e; cases e),?_⟩
   refine next ⟨fun _ _ => by rw [put_h],fun t ht => tget_put _ _ _ (fun e => a3 t e ht)⟩ ?_
   rw [← put_comm _ _ _ _ a2]
   exact h4.2
  ·have hX : isX (opAt ops i) = true := hki.resolve_right hAi
   have hnA : isA (opAt ops i) = false := by simpa using hAi
   have hpf : p ∈ look F i := hfl.resolve_left hAi
   have ih := front2 hki l1 (p :: gh) hkl hil hpw.2 (fun q hq => by
    rcases List.mem_cons.1 hq with rfl | hq
    ·exact ⟨hpf,hA,hpw.1⟩
    ·exact ⟨(hdn q hq).1,(hdn q hq).2.1,fun r hr => (hdn q hq).2.2 r (List.mem_cons_of_mem _ hr)⟩) h1
   have h3 := step_slot hX a1 a2 ih
   refine stepL_m (.inl hX) h3 fun s1 ⟨h4,h5,h6⟩ => ?_
   have h5 := h5 hnA
   have hkp2 := h5 p List.mem_cons_self
   rw [rds_put hself] at hkp2
   refine ⟨fun _ q hq => ?_,next ⟨fun b hb => ?_,fun t ht => h4 t fun e => a3 t e ht⟩ h6⟩
   ·have e := h5 q (List.mem_cons_of_mem _ hq)
    rw [rds_put (((hdn q hq).2.2 p List.mem_cons_self).2.2 i (hdn q hq).1 hpf (hdn q hq).2.1 hA)] at e
    refine keptL_mk fun b hb => ?_
    have := keptL_get e b hb
    rwa [put_h,put_h] at this
   ·have := keptL_get hkp2 b hb
    rwa [put_h,put_h] at this
end
def unlO (order : List Nat) (listed : Array Bool) : List Nat := order.filter fun j => !listed.getD j true
def edgesOK (ops : Array Oper) (pre : List Nat) (q : Nat) : Bool :=
 match ops[q]? with
 | some o => o.after.all fun e => !Region.binds .any e || pre.contains e.on
 | none => false
def orderOK (ops : Array Oper) (F : List (Nat × List Nat)) : List Nat → List Nat → Bool
 | _,[] => true
 | pre,q :: l => edgesOK ops pre q && selfOK ops q && l.all (fun r => pairOK ops F q r) && orderOK ops F (q :: pre) l
def drawnOK (ops : Array Oper) (F : List (Nat × List Nat)) (order : List Nat) : Bool := orderOK ops F [] order && (List.range ops.size).all (fun j => order.contains j)
section
variable {P : Program} {T : TT} {K : LS → Prop}
theorem orderOK_spec {ops : Array Oper} {F : List (Nat × List Nat)} : ∀ {l pre : List Nat},orderOK ops F pre l = true → l.Pairwise (PairP ops F) ∧ (∀ q ∈ l,known ops q ∧ (∀ d,(opAt ops q).dst = some d → d ∉ (opAt ops q).looksAt ops)) ∧
  ∀ l1 q l2,l = l1 ++ q :: l2 → ∃ o,ops[q]? = some o ∧ ∀ e ∈ o.after,Region.binds .any e = true → e.on ∈ pre ∨ e.on ∈ l1
 | [],pre,_ => ⟨.nil,fun q hq => (by cases hq),fun l1 q l2 h => (by cases l1 <;> cases h)⟩
 | r :: l,pre,h => by
  simp only [orderOK,Bool.and_eq_true] at h
  obtain ⟨⟨⟨h1,h2⟩,h3⟩,h4⟩ := h
  obtain ⟨k1,k2,k3⟩ := orderOK_spec h4
  refine ⟨List.pairwise_cons.2 ⟨fun q hq => pairOK_spec (List.all_eq_true.1 h3 q hq),k1⟩,fun q hq => ?_,fun l1 q l2 e => ?_⟩
  ·rcases List.mem_cons.1 hq with rfl | hq
   ·exact selfOK_spec h2
   ·exact k2 q hq
  ·cases l1 with
   | nil =>
    cases e
    unfold edgesOK at h1
    split at h1
    ·rename_i o ho
     refine ⟨o,ho,fun e he hb => .inl ?_⟩
     have := Array.all_eq_true_iff_forall_mem.1 h1 e he
     simpa [hb] using this
    ·cases h1
   | cons x l1 =>
    cases e
    obtain ⟨o,ho,h5⟩ := k3 l1 q l2 rfl
    refine ⟨o,ho,fun e he hb => ?_⟩
    rcases h5 e he hb with h | h
    ·rcases List.mem_cons.1 h with h | h
     ·exact .inr (by rw [h]; exact List.mem_cons_self)
     ·exact .inl h
    ·exact .inr (List.mem_cons_of_mem _ h)
theorem anyO_sound (hT : TOK P T) {ops : Array Oper} {F : List (Nat × List Nat)} {order : List Nat} (hd : drawnOK ops F order = true) {c0 : Ctx} {w0 : World} {Q : Exit → Act → World → Prop} (hQ : ∀ a' w',Post K c0 w0 a' w' → Q .normal a' w') :
  ∀ (fuel : Nat) (listed : Array Bool) {s : LS} {c : Ctx} {a : Act} {w : World},listed.size = ops.size → Closed ops listed → (unlO order listed).length = fuel → Ext c0 w0 c w → St c s a w →
  lopsG (fun _ => P) (fun _ => T) ops F (unlO order listed) s K → wpAny P .any ops Q fuel listed a w := by
 simp only [drawnOK,Bool.and_eq_true,List.all_eq_true,List.mem_range] at hd
 obtain ⟨hpw,hkn,hed⟩ := orderOK_spec hd.1
 have hall : ∀ j,j < ops.size → j ∈ order := fun j hj => by simpa using hd.2 j hj
 have mem_unl : ∀ {listed : Array Bool} {j : Nat},j ∈ unlO order listed ↔ j ∈ order ∧ listed.getD j true = false := by
  intro listed j
  simp [unlO,List.mem_filter]
 have at_ : ∀ {j o},ops[j]? = some o → opAt ops j = o := by
  intro j o ho
  simp [opAt,ho]
 have hlt_ : ∀ {listed : Array Bool} {j : Nat},listed.size = ops.size → listed.getD j true = false → j < ops.size := by
  intro listed j hsz h
  rcases Nat.lt_or_ge j ops.size with h1 | h1
  ·exact h1
  ·rw [Array.getD_eq_getD_getElem?,Array.getElem?_eq_none (by omega)] at h; cases h
 intro fuel
 induction fuel with
 | zero =>
  intro listed s c a w hsz hcl hlen he hs h
  have h0 : unlO order listed = [] := List.eq_nil_of_length_eq_zero hlen
  refine ⟨List.eq_nil_iff_forall_not_mem.2 fun j hj => ?_,?_⟩
  ·obtain ⟨h1,o,h2,_⟩ := mem_ready.1 hj
   have : j ∈ unlO order listed := mem_unl.2 ⟨hall j (Array.getElem?_eq_some_iff.1 h2).1,h1⟩
   rw [h0] at this; cases this
  ·rw [h0] at h
   exact hQ _ _ ⟨c,s,h,hs,he⟩
 | succ fuel ih =>
  intro listed s c a w hsz hcl hlen he hs h
  refine ⟨fun hr => ?_,fun i hi => ?_⟩
  ·exfalso
   cases hu : unlO order listed with
   | nil => rw [hu] at hlen; cases hlen
   | cons i0 rest =>
    obtain ⟨l1,l2,e1,e2,e3,e4⟩ := List.filter_eq_cons_iff.1 hu
    have hun : listed.getD i0 true = false := by simpa using e3
    obtain ⟨o,ho,h5⟩ := hed l1 i0 l2 e1
    have : i0 ∈ Region.ready .any ops listed := by
     refine mem_ready.2 ⟨hun,o,ho,fun e hee hb => ?_⟩
     rcases h5 e hee hb with h6 | h6
     ·cases h6
     ·have h7 := e2 _ h6
      have h8 : listed.getD e.on true = true := by simpa using h7
      rcases Nat.lt_or_ge e.on listed.size with h9 | h9
      ·rw [getD_tf h9 false true]; exact h8
      ·exfalso
       obtain ⟨m1,m2,hm⟩ := List.append_of_mem h6
       obtain ⟨o2,ho2,_⟩ := hed m1 e.on (m2 ++ i0 :: l2) (by rw [e1,hm]; simp)
       have := (Array.getElem?_eq_some_iff.1 ho2).1
       omega
    rw [hr] at this; cases this
  ·obtain ⟨hun,o,ho,haft⟩ := mem_ready.1 hi
   have hlt : i < ops.size := (Array.getElem?_eq_some_iff.1 ho).1
   have hiu : i ∈ unlO order listed := mem_unl.2 ⟨hall i hlt,hun⟩
   obtain ⟨l1,l2,hl⟩ := List.append_of_mem hiu
   have hpu : (unlO order listed).Pairwise (PairP ops F) := hpw.filter _
   have hku : ∀ q ∈ unlO order listed,known ops q ∧ (∀ d,(opAt ops q).dst = some d → d ∉ (opAt ops q).looksAt ops) := fun q hq => hkn q (mem_unl.1 hq).1
   rw [hl] at hpu hku h
   rw [List.pairwise_append] at hpu
   obtain ⟨hp1,hp2,hp3⟩ := hpu
   rw [List.pairwise_cons] at hp2
   have hrest : unlO order (listed.setIfInBounds i true) = l1 ++ l2 := by
    have e1 : unlO order (listed.setIfInBounds i true) = (unlO order listed).filter (· != i) := by
     unfold unlO
     rw [List.filter_filter]
     refine List.filter_congr fun j hj => ?_
     by_cases e : i = j
     ·subst e
      rw [Array.getD_eq_getD_getElem?,Array.getElem?_setIfInBounds_self_of_lt (by omega)]
      simp
     ·rw [getD_set_ne _ e]
      have : (j != i) = true := by simp; omega
      rw [this]; simp
    rw [e1,hl,List.filter_append,List.filter_cons_of_neg (by simp)]
    congr 1
    ·rw [List.filter_eq_self]
     intro p hp
     have := (hp3 p hp i List.mem_cons_self).1
     simpa using this
    ·rw [List.filter_eq_self]
     intro p hp
     have := (hp2.1 p hp).1
     have : p ≠ i := fun e => this e.symm
     simpa using this
   have hf := front2 (ops := ops) (F := F) (i := i) (l2 := l2) (hku i (by simp)).1 l1 [] (fun p hp => hku p (by simp [hp])) (fun p hp => ⟨hp3 p hp i List.mem_cons_self,by
    cases e : reach ops ops.size p i with
    | false => rfl
    | true =>
     exfalso
     have h1 := reach_listed hcl _ i o ho e haft
     have hpm : p ∈ unlO order listed := by rw [hl]; simp [hp]
     have h2 := (mem_unl.1 hpm).2
     rw [getD_tf (by rw [hsz]; exact hlt_ hsz h2) true false,h1] at h2; cases h2⟩) hp1 (fun p hp => (by cases hp)) h
   rw [at_ ho,← hrest] at hf
   have hsz' : (listed.setIfInBounds i true).size = ops.size := by simp [hsz]
   have hcl' : Closed ops (listed.setIfInBounds i true) := by
    intro q oq hoq hq e hee hb
    by_cases hqi : i = q
    ·subst hqi
     rw [ho] at hoq; cases hoq
     exact getD_set_true (haft e hee hb)
    ·rw [getD_set_ne _ hqi] at hq
     exact getD_set_true (hcl q oq hoq hq e hee hb)
   have hlen' : (unlO order (listed.setIfInBounds i true)).length = fuel := by
    rw [hrest]
    rw [hl] at hlen
    simp at hlen ⊢; omega
   unfold wpOp
   rw [ho]
   dsimp only
   unfold stepL at hf
   split at hf
   ·rename_i cb hy
    have hw := yes_sound hs hy
    cases cb with
    | true =>
     rw [if_pos hw]
     left
     refine Oper.wp_mono (fun a' w' hp => ?_) (lop_sound (Q := Q) hT hs hf)
     obtain ⟨c',s',hK,hs',he'⟩ := hp
     exact ih _ hsz' hcl' hlen' (he.trans he') hs' hK.2
    | false =>
     rw [if_neg (by rw [hw]; simp)]
     exact ih _ hsz' hcl' hlen' he (hs.put .nul _) hf.2
   ·exact hf.elim
theorem drawn_sound (hT : TOK P T) (hm : P.follows .mixedOrders = true) (F : List (Nat × List Nat)) (order : List Nat) {ops : Unit → Array Oper} {s : LS} (hd : drawnOK (ops ()) F order = true) (h : lopsG (fun _ => P) (fun _ => T) (ops ()) F order s K) : DrawF (fun _ => P) ops s K := by
 refine .mk fun c a w t Q hs hQ => ?_
 generalize ops () = ops at *
 simp only [Region.schedule,hm,Bool.true_or,if_true]
 have hget : ∀ i,(Array.replicate ops.size false).getD i false = false := by
  intro i
  rw [Array.getD_eq_getD_getElem?,Array.getElem?_replicate]
  split <;> rfl
 have hd' := hd
 simp only [drawnOK,Bool.and_eq_true] at hd'
 obtain ⟨hpw,_,hed⟩ := orderOK_spec hd'.1
 have hlt : ∀ j ∈ order,j < ops.size := fun j hj => by
  obtain ⟨l1,l2,e⟩ := List.append_of_mem hj
  obtain ⟨o,ho,_⟩ := hed l1 j l2 e
  exact (Array.getElem?_eq_some_iff.1 ho).1
 have hun : unlO order (Array.replicate ops.size false) = order := by
  unfold unlO
  rw [List.filter_eq_self]
  intro j hj
  have := hlt j hj
  rw [Array.getD_eq_getD_getElem?,Array.getElem?_replicate,if_pos this]; rfl
 have hnd : order.Nodup := hpw.imp fun h => h.1
 have hlen : order.length = ops.size := by
  have h1 : order.Perm (List.range ops.size) := by
   rw [List.perm_ext_iff_of_nodup hnd List.nodup_range]
   intro j
   rw [List.mem_range]
   exact ⟨hlt j,fun hj => by have := List.all_eq_true.1 hd'.2 j (List.mem_range.2 hj); simpa using this⟩
  simpa using h1.length_eq
 refine wpAny_sound ops.size t _ a w (anyO_sound (K := K) hT hd (c0 := c) (w0 := w) (fun a' w' hp => hQ a' w' ?_) ops.size _ (by simp) ?_ (by rw [hun]; exact hlen) (Ext.refl hs.hr) hs ?_)
 ·obtain ⟨c',s',hK,hs',he⟩ := hp
  exact ⟨c',s',hK,hs',he⟩
 ·intro q o _ hq
  rw [hget] at hq; cases hq
 ·rw [hun]; exact h
end
end Go.LX
namespace Go.LX
open Go
set_option linter.unusedVariables false
set_option maxHeartbeats 32000000
section
variable {c c0 : Ctx} {w w' : World} {n n0 : Nat} {h h0 : LH} {ρ : List (Nat × Nat)}
def fixL : Nat → List (Nat × (Unit → Obj)) → LH
 | _,[] => []
 | n,(g,o) :: l => (n,.fix g o) :: fixL (n + 1) l
theorem fixL_get : ∀ (l : List (Nat × (Unit → Obj))) (n b : Nat) (B : LB),hget (fixL n l) b = some B → n ≤ b ∧ b < n + l.length ∧ ∃ g o,(g,o) ∈ l ∧ B = .fix g o
 | [],n,b,B,h => by cases h
 | (g,o) :: l,n,b,B,h => by
  rw [fixL,hget_cons] at h
  by_cases e : n = b
  ·rw [if_pos e] at h; cases h
   exact ⟨by omega,by simp; omega,g,o,List.mem_cons_self,rfl⟩
  ·rw [if_neg e] at h
   obtain ⟨h1,h2,g',o',h3,h4⟩ := fixL_get l (n + 1) b B h
   exact ⟨by omega,by simp; omega,g',o',List.mem_cons_of_mem _ h3,h4⟩
def Ctx.laid (k : Nat) : Ctx := ⟨fun b => if b < k then some none else none,fun _ => False,k⟩
theorem laid_mut (k r : Nat) : ¬ (Ctx.laid k).mut r := by
 rintro (h | ⟨b,hb⟩)
 ·exact h
 ·have hb : (if b < k then some none else none) = some (some r) := hb
  split at hb <;> cases hb
theorem law_laid {P : Program} {f : Nat} {args : List LV} {b : Bool} (l : List (Nat × (Unit → Obj))) (h : CallF (fun _ => P) f args (fixL 0 l) l.length fun r _ _ => r = .p (.bool b)) {w : World} {xs : Array Value} (hl : ∀ g o,(g,o) ∈ l → w.heap[g]? = some (o ())) (hx : Rel2 (Ctx.laid l.length) w args xs.toList) :
  Calls P f xs w fun e w' => e = .returned (.bool b) ∧ Go.RowKit.Below w.heap.size w w' := by
 cases h with
 | mk h1 h2 =>
  have hno : ∀ b r,(Ctx.laid l.length).m b ≠ some (some r) := fun b r h => laid_mut l.length r (.inr ⟨b,h⟩)
  refine (h2 (Ctx.laid l.length) w xs ⟨fun b B hb => ?_,fun b hb => ?_,fun b b' r e => (hno b r e).elim,fun b r e => (hno b r e).elim,fun r hx => hx.elim,fun b r e => (hno b r e).elim⟩ rfl hx.getD.1 hx.getD.2).mono fun e w' ⟨c',r,v,h',n',g1,g2,g3,g4,g5,g6⟩ => ?_
  ·obtain ⟨_,k1,g,o,k2,rfl⟩ := fixL_get l 0 b B hb
   exact ⟨none,if_pos (by omega),hl g o k2,laid_mut _ g⟩
  ·exact if_neg (by have hb : l.length ≤ b := hb; omega)
  ·subst g2
   rw [g5.inv_bool] at g1
   refine ⟨g1,⟨g6.os,g6.tape,g6.output,g6.size,fun k hk => g6.same k hk ?_⟩⟩
   exact fun h => laid_mut l.length k (.inr h)
theorem callF_calls {P : Program} {f : Nat} {args : List LV} {K : LV → Prop} (hc : callable P f) (H : ∀ (c : Ctx) (w : World) (xs : Array Value),HR c w h → c.N = n → args.length = xs.size → (∀ (i : Nat) (u : LV),args[i]? = some u → LR c w u (xs.getD i Go.undef)) →
  Calls P f xs w fun e w' => ∃ v r,e = .returned v ∧ K r ∧ Go.RowKit.Below w.heap.size w w' ∧ ∀ c',LR c' w' r v) : CallF (fun _ => P) f args h n fun r h' n' => K r ∧ h' = h ∧ n' = n := by
 refine .mk hc fun c w xs hr hN hl hrel => (H c w xs hr hN hl hrel).mono fun e w' ⟨v,r,h1,h2,h3,h4⟩ => ?_
 have he : Ext c w c w' := ⟨h3.os,h3.tape,h3.output,h3.size,rfl,Nat.le_refl _,fun _ _ => .inl rfl,fun b r hb e => (by rw [hr.fresh b hb] at e; cases e),fun r hlt _ => h3.block r hlt,fun b r _ e => by simp only [World.shape?,h3.block r (hr.lt b r e)]⟩
 exact ⟨c,r,v,h,n,h1,⟨h2,rfl,rfl⟩,hr.step he (.inl rfl) hr.fresh (fun _ => .inl rfl) (fun d C hd => .inl ⟨hd,rfl,fun k hk => h3.block k (hr.lt d k hk)⟩),hN,h4 c,he⟩
end
end Go.LX
namespace Go.Proofs.YtcbombkaacjngaaGreatDoor
open Go Go.LX Go.RowKit
set_option maxHeartbeats 32000000
theorem vsl_gen {w : World} {size n : Nat} {v : Value} {xs : List Value} (hsz : 0 < size) (h : Sl w w.heap.size size v n xs) {m : Int} {l : List PV} (hm : m = n) (hl : l.length = n * size) (hrel : ∀ (j : Nat) (u : PV),l[j]? = some u → ∃ x,xs[j]? = some x ∧ PR Ctx.empty.mut w u x) :
  LR Ctx.empty w (.p (.vsl (.sym m) true l)) v := by
 have h0 : (I.sym m).val = n := hm
 rcases h.form with ⟨rfl,rfl⟩ | ⟨a,c,rfl,h1,h2,h3,h4⟩
 ·exact .p _ _ (.vsl0 _ _ _ _ _ h0 (Nat.zero_le _))
 ·rcases Nat.eq_zero_or_pos n with rfl | hn
  ·exact .p _ _ (.vsl0 _ _ _ _ _ h0 h2)
  ·have hlen : 0 < l.length := by rw [hl]; exact Nat.mul_pos hn hsz
   obtain ⟨x0,hx0,_⟩ := hrel 0 l[0] (List.getElem?_eq_getElem hlen)
   have hc := h4 0 x0 hx0
   have hsp : a.spot = none := by
    have : w.cell? a = some x0 := hc
    unfold World.cell? at this
    split at this
    ·split at this
     ·cases this
     ·rename_i hns
      cases hs : a.spot with
      | none => rfl
      | some _ => rw [hs] at hns; exact absurd rfl hns
    ·cases this
   refine .p _ _ (.vsl _ _ _ a n c (fun j => xs.getD j Go.undef) h0 hsp (fun hM => ?_) (h3 hn) h1 h2 (fun j u hu => ?_) (fun j u hu => ?_))
   ·rcases hM with hx | ⟨b,hb⟩
    ·exact hx
    ·cases hb
   ·obtain ⟨x,hx,_⟩ := hrel j u hu
    rw [h4 j x hx,List.getD_eq_getElem?_getD,hx]; rfl
   ·obtain ⟨x,hx,hp⟩ := hrel j u hu
    rw [List.getD_eq_getElem?_getD,hx]; exact hp
end Go.Proofs.YtcbombkaacjngaaGreatDoor
namespace Go.LX
open Go
set_option linter.unusedVariables false
set_option maxHeartbeats 32000000
def veq : Value → PV → Bool
 | .int k n,.int k' e => (k == k') && (n == e.val)
 | .bool b,.bool b' => b == b'
 | .string s,.str s' => s.data.toList.isEmpty && (s' ()).data.toList.isEmpty
 | .pointer none,.nilp => true
 | .slice none 0 0,.nils => true
 | .nilIface,.nilif => true
 | .nilFunc,.nilfn => true
 | .map none,.nilm => true
 | _,_ => false
def veqs : List Value → List PV → Bool
 | [],[] => true
 | x :: l,y :: m => veq x y && veqs l m
 | _,_ => false
def keq (P : Program) : TK → TypeDesc → Bool
 | .int k,.int k' => k == k'
 | .bool,.bool => true
 | .str,.string => true
 | .ptr e,.pointer e' => e == e'
 | .slice e,.slice e' => e == e'
 | .struct fs,.struct fs' => (fs == fs'.toList.map fun f => (f.offset,f.type)) && (fs'.toList.mapM fun f => (P.info? f.type).map fun i => (f.offset,i.size)).isSome
 | .arr n e,.array n' e' => (n == n') && (e == e') && (P.info? e).isSome
 | .iface,.interface _ => true
 | .func,.func _ _ _ => true
 | .map k e,.map k' e' => k == k' && e == e'
 | _,_ => false
def shape : TK → Value → Bool
 | k,.agg _ => k.agg
 | k,.tuple _ => false
 | k,_ => !k.agg
def teq (P : Program) (t : Nat) (ti : TI) : Bool :=
 match P.info? t,P.underlying t with
 | some i,some d => (i.size == ti.size) && (i.bytes == ti.bytes) && (match i.zero with
  | some z => veqs z.cells.toList ti.zero && shape ti.kind z
  | none => false) && keq P ti.kind d
 | _,_ => false
def teqs (P : Program) : TT → Bool
 | [] => true
 | (t,ti) :: l => teq P t ti && teqs P l
theorem veq_ok {x : Value} {y : PV} (h : veq x y = true) : x = y.toV ∧ zok y = true := by
 unfold veq at h
 split at h
 ·rename_i k n k' e
  simp only [Bool.and_eq_true,beq_iff_eq] at h
  obtain ⟨rfl,rfl⟩ := h
  exact ⟨rfl,rfl⟩
 ·have h := beq_iff_eq.1 h; subst h; exact ⟨rfl,rfl⟩
 ·rename_i s s'
  simp only [Bool.and_eq_true,List.isEmpty_iff] at h
  have : s = s' () := by
   apply Go.WideShapes.bytes_inj
   rw [h.1,h.2]
  subst this; exact ⟨rfl,rfl⟩
 ·exact ⟨rfl,rfl⟩
 ·exact ⟨rfl,rfl⟩
 ·exact ⟨rfl,rfl⟩
 ·exact ⟨rfl,rfl⟩
 ·exact ⟨rfl,rfl⟩
 ·cases h
theorem veqs_ok : ∀ {l : List Value} {m : List PV},veqs l m = true → l = m.map PV.toV ∧ m.all zok = true
 | [],[],_ => ⟨rfl,rfl⟩
 | x :: l,y :: m,h => by
  simp only [veqs,Bool.and_eq_true] at h
  obtain ⟨h1,h2⟩ := veq_ok h.1
  obtain ⟨h3,h4⟩ := veqs_ok h.2
  exact ⟨by rw [List.map_cons,← h1,← h3],by simp only [List.all_cons,h2,h4,Bool.and_self]⟩
 | [],_ :: _,h => by cases h
 | _ :: _,[],h => by cases h
theorem keq_ok {P : Program} {k : TK} {d : TypeDesc} (h : keq P k d = true) : kindOk P k d := by
 unfold keq at h
 split at h
 ·exact beq_iff_eq.1 h
 ·trivial
 ·trivial
 ·exact beq_iff_eq.1 h
 ·exact beq_iff_eq.1 h
 ·simp only [Bool.and_eq_true,beq_iff_eq] at h; exact h
 ·simp only [Bool.and_eq_true,beq_iff_eq] at h; exact ⟨h.1.1,h.1.2,h.2⟩
 ·trivial
 ·trivial
 ·simp only [Bool.and_eq_true,beq_iff_eq] at h; exact h
 ·cases h
theorem teq_ok {P : Program} {t : Nat} {ti : TI} (h : teq P t ti = true) : TIok P t ti := by
 unfold teq at h
 split at h
 ·rename_i i d hi hd
  simp only [Bool.and_eq_true,beq_iff_eq] at h
  obtain ⟨⟨⟨h1,h2⟩,h3⟩,h4⟩ := h
  split at h3
  ·rename_i z hz
   simp only [Bool.and_eq_true] at h3
   obtain ⟨h5,h6⟩ := veqs_ok h3.1
   refine ⟨⟨i,z,d,hi,h1,h2,hz,h5,hd,keq_ok h4,fun hk => ?_,fun hk => ?_⟩,h6⟩
   ·have := h3.2
    cases z <;> simp [shape,hk] at this
    rfl
   ·have := h3.2
    cases z <;> simp [shape,hk] at this <;> rfl
  ·cases h3
 ·cases h
theorem teqs_ok {P : Program} : ∀ {T : TT},teqs P T = true → TOK P T
 | [],_ => tok_nil P
 | (t,ti) :: l,h => by
  simp only [teqs,Bool.and_eq_true] at h
  exact tok_cons (teq_ok h.1) (teqs_ok h.2)
end Go.LX
namespace Go.LX
open Go
set_option linter.unusedVariables false
set_option maxHeartbeats 32000000
section
variable (P : Unit → Program) (K : LS → Prop) (KE : Exit → LS → Prop) (KV : LV → Prop) (KI : I → Prop) (KB : Bool → Prop) (KL : LV → LH → Nat → Prop) (KP : Bool → List PV → I → Prop) (KLB : LB → Prop) (x : Int) (V : Nat → LS → Prop) (s : LS) (KVS : List LV → Prop) (KPV : PV → Prop) (KBL : Bool → List PV → Prop)
def T0 : TT := [(3,⟨1,8,[.int .i64 (.lit 0)],.int .i64⟩),(4,⟨1,1,[.bool false],.bool⟩),(5,⟨1,24,[.nils],.slice 3⟩),(6,⟨1,16,[.str fun _ => ⟨#[]⟩],.str⟩),(7,⟨2,24,[.int .i64 (.lit 0),.str fun _ => ⟨#[]⟩],.struct [(0,3),(1,6)]⟩),(8,⟨1,8,[.nilp],.ptr 7⟩),(9,⟨2,16,[.int .i64 (.lit 0),.int .i64 (.lit 0)],.arr 2 3⟩),(10,⟨1,16,[.nilif],.iface⟩),(16,⟨1,1,[.int .u8 (.lit 0)],.int .u8⟩),(17,⟨1,24,[.nils],.slice 16⟩)]
def S0 : LS := ⟨[i6 x,.p (.int .i64 (.lit 3)),.p (.bool true),.ptr 0 (.lit 0),.p (.vsl (.lit 1) false [.int .i64 (.lit 1)]),.sl 1 3 1 (.lit 0) (.lit 1),.p (.str fun _ => ⟨#[97]⟩),.agg [.p (.int .i64 (.lit 1)),.p (.str fun _ => ⟨#[]⟩)],.tup [.p (.int .i64 (.lit 1)),.p (.str fun _ => ⟨#[]⟩)],.iface 3 (.p (.int .i64 (.lit 1))),.ptr 2 (.lit 0),.p .nils,.undef,.p .nilp,.fn 3 [.p (.int .i64 (.lit 1))],.sl 3 3 1 (.lit 0) (.sym x),.p (.vsl (.sym x) true [])],[(0,.pure false [.int .i64 (.lit 1),.str fun _ => ⟨#[]⟩]),(1,.pure false [.int .i64 (.lit 1)]),(2,.iter (fun _ => ⟨#[97]⟩) (.lit 0)),(3,.pure true [.int .i64 (.lit 1)]),(4,.mix [.p (.int .i64 (.lit 1)),.ptr 0 (.lit 0)])],5⟩
def op (o : Op) : Oper := ⟨some 12,o,3, "",#[],none⟩
def warmed (p : Prop) : Prop := True
def runs (o : Op) : Prop := lop P (fun _ => T0) (op o) (S0 x) K
def all (l : List Op) : Prop := match l with
 | [] => True
 | o :: l => And (runs P K x o) (all l)
theorem w2 (h : all P K x [.move (.tmp 0),.assign (.const (.int .i64 3)),.pick (.tmp 2) (.tmp 0) (.tmp 1),.binOp .add 3 (.tmp 0) (.tmp 1) 3,.binOp .add 3 (.tmp 1) (.tmp 1) 3,.binOp .lss 3 (.tmp 1) (.tmp 1) 3,.binOp .lss 3 (.tmp 0) (.tmp 1) 3,
  .binOp .sub 3 (.tmp 0) (.tmp 1) 3,.binOp .mul 3 (.tmp 0) (.tmp 1) 3,.binOp .quo 3 (.tmp 0) (.tmp 1) 3,.binOp .rem 3 (.tmp 0) (.tmp 1) 3,.binOp .rem 3 (.tmp 1) (.tmp 1) 3,.binOp .and 3 (.tmp 0) (.tmp 1) 3,.binOp .leq 3 (.tmp 0) (.tmp 1) 3,.binOp .gtr 3 (.tmp 0) (.tmp 1) 3,.binOp .geq 3 (.tmp 0) (.tmp 1) 3,.binOp .eql 3 (.tmp 0) (.tmp 1) 3,.binOp .neq 3 (.tmp 0) (.tmp 1) 3,
  .binOp .eql 6 (.tmp 6) (.tmp 6) 6,.binOp .add 6 (.tmp 6) (.tmp 6) 6,.binOp .eql 4 (.tmp 2) (.tmp 2) 4,.binOp .eql 8 (.tmp 3) (.tmp 13) 8,.unOp .not 4 (.tmp 2),.unOp .neg 3 (.tmp 0),.nilCheck (.tmp 3),.alloc 7,.box 7 (.tmp 7),.build 7 #[(0,.tmp 1)],.buildSlice 5 2 #[(0,.tmp 0),(1,.tmp 1)],.load 7 (.tmp 3),.load 3 (.tmp 3),.store 3 (.tmp 3) (.tmp 0),
  .fieldAddr 7 (.tmp 3) 1,.field 7 (.tmp 7) 1,.indexAddr 5 (.tmp 4) (.tmp 1),.indexAddr 5 (.tmp 5) (.tmp 0),.index 6 (.tmp 6) (.tmp 0),.slice 6 (.tmp 6) (some (.tmp 0)) none none,.slice 5 (.tmp 4) (some (.tmp 0)) (some (.tmp 1)) none,.slice 5 (.tmp 5) none (some (.tmp 1)) none,.binOp .eql 7 (.tmp 7) (.tmp 7) 7,.binOp .neq 7 (.tmp 7) (.tmp 7) 7,.slice 6 (.tmp 6) (some (.tmp 0)) (some (.tmp 1)) none,.convert 3 3 (.tmp 0),.convert 3 6 (.tmp 0),.makeInterface 3 (.tmp 0),.typeAssert (.tmp 9) 10 3 true,.typeAssert (.tmp 9) 10 7 true,.extract (.tmp 8) 1,
  .range 6 (.tmp 6),.next (.tmp 10) true,.makeFunc (.func 3) #[] #[.tmp 1],.call { callee := .value (.func 3),args := #[.tmp 0],argTypes := #[3] },.call { callee := .value (.tmp 14),args := #[.tmp 0],argTypes := #[3] },.call { callee := .builtin .len,args := #[.tmp 4],argTypes := #[5] },.call { callee := .builtin .len,args := #[.tmp 5],argTypes := #[5] },.call { callee := .builtin .len,args := #[.tmp 6],argTypes := #[6] },
  .call { callee := .builtin .append,args := #[.tmp 11,.tmp 4],argTypes := #[5,5] },.call { callee := .builtin .append,args := #[.tmp 15,.tmp 5],argTypes := #[5,5] },.makeSlice 5 (.tmp 0) (.tmp 1),.makeSlice 5 (.tmp 0) (.tmp 0),.call { callee := .builtin .cap,args := #[.tmp 15],argTypes := #[5] },.convert 17 6 (.tmp 16),.call { callee := .builtin .min,args := #[.tmp 0,.tmp 1],argTypes := #[3,3] },.call { callee := .builtin .max,args := #[.tmp 0,.tmp 1],argTypes := #[3,3] }]) : warmed (all P K x [.move (.tmp 0)]) := by
 revert h
 conv => lhs; cbv
 intro h
 trivial
def codes : Prop := lcode P (fun _ => T0) 0 (.seq (.region 0 #[op (.move (.tmp 0))] false) (.block 3 (.seq (.cond (.tmp 2) .skip (.exit 3)) (.seq (.cond (.const (.bool false)) .skip (.seq (.label 1) (.exit 3))) .ret)))) (S0 x) KE
theorem w3 (h : codes P KE x) : warmed (codes P KE x) := by
 revert h
 conv => lhs; cbv
 intro h
 trivial
end
end Go.LX
