/-
  The ground of the proof, part 7: the calculus and what is proved with it.
-/
import Derived.Test.YtpbhcdbkmmjimaaGreatDoorBf
import Derived.Test.YtpbhcdbkmmjimaaGreatDoorBe
import Derived.Shelf.Strings.Builder1
import Derived.Shelf.Strings.Builder2
import Derived.Shelf.Strings.BuilderF
import Derived.Shelf.Strings.BuilderK
import Derived.Shelf.LaysM
import Derived.Shelf.Strconv.Itoa3
import Derived.Shelf.LaysC
import Derived.Shelf.Strconv.AtoiAll
import Derived.Shelf.Strings.Prefix
import Derived.Shelf.Strings.Repeat
import Derived.Ground.Names2Prog
import Derived.Shelf.Slices.Clone
import Derived.Test.YtpbhcdbkmmjimaaGreatDoorProg
import Derived.Test.YtpbhcdbkmmjimaaGreatDoorBd
import Derived.Test.YtpbhcdbkmmjimaaGreatDoorRows
namespace Go.Proofs.YtpbhcdbkmmjimaaGreatDoor
open Go Go.LX
set_option maxRecDepth 100000
set_option linter.unusedVariables false
set_option linter.unusedSimpArgs false
set_option maxHeartbeats 32000000
def Leads (R : List Rw) (ws : List Int) (a b : Int) : Prop := ∃ i x,Loaded R ws a i x 0 ∧ x % 2 = 1 ∧ (x - 1) / 2 = b ∧ b ∈ objs R
inductive Rb (R : List Rw) (ws C A : List Int) : Int → Prop
 | root (a : Int) (h : a ∈ A) (ho : a ∈ objs R) : Rb R ws C A a
 | next (a b : Int) (h : Rb R ws C A a) (hc : C[a.toNat]? ≠ some 0) (hl : Leads R ws a b) : Rb R ws C A b
inductive Rch (R : List Rw) (ws A : List Int) : Int → Prop
 | root (a : Int) (h : a ∈ A) (ho : a ∈ objs R) : Rch R ws A a
 | next (a b : Int) (h : Rch R ws A a) (hl : Leads R ws a b) : Rch R ws A b
theorem Rb.mono {R : List Rw} {ws C C' A A' : List Int} (hc : ∀ p : Nat,C'[p]? = some 0 → C[p]? = some 0) (hA : ∀ a ∈ A,a ∈ A') {a : Int} (h : Rb R ws C A a) : Rb R ws C' A' a := by
 induction h with
 | root a h ho => exact .root a (hA a h) ho
 | next a b _ hn hl ih => exact .next a b ih (fun k => hn (hc _ k)) hl
theorem Rb.to {R : List Rw} {ws C A : List Int} {a : Int} (h : Rb R ws C A a) : Rch R ws A a := by
 induction h with
 | root a h ho => exact .root a h ho
 | next a b _ hn hl ih => exact .next a b ih hl
theorem Rch.obj {R : List Rw} {ws A : List Int} {a : Int} (h : Rch R ws A a) : a ∈ objs R := by
 cases h with
 | root a h ho => exact ho
 | next a b _ hl => obtain ⟨_,_,_,_,_,h⟩ := hl; exact h
theorem stored_to {R : List Rw} {ws ws' : List Int} {a i x e : Int} (hA : AOk R ws) (h : Stored R ws a i x e ws') : (∀ b k l,Kept R ws b k l → Kept R ws' b k l) ∧ ∀ b j y,b ≠ a → Loaded R ws b j y 0 → Loaded R ws' b j y 0 := by
 cases h with
 | none _ => exact ⟨fun _ _ _ hk => hk,fun _ _ _ _ hk => hk⟩
 | arg _ _ _ _ => exact ⟨fun _ _ _ hk => hk,fun _ _ _ _ hk => hk⟩
 | ok k l hka hi =>
  have hbn := hka.bounds hA
  have hkeep : ∀ b k' l',Kept R ws b k' l' → Kept R (ws.set (a + 1 + i).toNat x) b k' l' := by
   intro b k' l' hb
   obtain ⟨w,q1,q2,q3,q4,q5,q6⟩ := hb
   have hne : (a + 1 + i).toNat ≠ b.toNat := by
    obtain ⟨wa,p1,p2,p3,p4,p5,p6⟩ := hka
    have := within_not hA.rows p1 q1 (j := a + 1 + i) (by omega) (by omega)
    have := q1.facts hA.rows
    omega
   exact .mk k' l' w q1 (by rw [List.getElem?_set_ne hne]; exact q2) q3 q4 q5 q6
  refine ⟨hkeep,fun b j y hne hl => ?_⟩
  cases hl with
  | ok k' l' _ hK hj hy =>
   have hb2 := hK.bounds hA
   refine .ok k' l' y (hkeep _ _ _ hK) hj ?_
   rw [List.getElem?_set_ne ?_]
   ·exact hy
   ·intro e
    have e : a + 1 + i = b + 1 + j := by omega
    obtain ⟨wa,p1,p2,p3,p4,p5,p6⟩ := hka
    obtain ⟨wb,q1,q2,q3,q4,q5,q6⟩ := hK
    rcases Int.lt_trichotomy a b with q | q | q
    ·exact within_not hA.rows p1 q1 (j := b) (by omega) (by omega) rfl
    ·exact hne q.symm
    ·exact within_not hA.rows q1 p1 (j := a) (by omega) (by omega) rfl
structure Cm (R : List Rw) (ws C G : List Int) (ov : Bool) (A : List Int) (v : Int) : Prop where
 all : ov = false → ∀ a ∈ objs R,a ≠ v → C[a.toNat]? = some 1 → a ∈ G
 rb : ∀ a ∈ objs R,C[a.toNat]? ≠ some 0 → Rb R ws C A a
 c3 : ∀ a ∈ objs R,C[a.toNat]? = some 0 ∨ C[a.toNat]? = some 1 ∨ C[a.toNat]? = some 2
theorem Cm.more {R : List Rw} {ws C G : List Int} {ov : Bool} {A B : List Int} {v : Int} (h : Cm R ws C G ov A v) (hA : ∀ a ∈ A,a ∈ B) : Cm R ws C G ov B v :=
 ⟨h.all,fun a ha hn => (h.rb a ha hn).mono (fun _ k => k) hA,h.c3⟩
theorem Cm.shade {R : List Rw} {ws A : List Int} {v a : Int} {s : List Int × List Int × Bool} (hA : AOk R ws) (h : Cm R ws s.1 s.2.1 s.2.2 A v) (hR : a ∈ objs R → Rb R ws s.1 A a) : Cm R ws (shade R 1 a s).1 (shade R 1 a s).2.1 (shade R 1 a s).2.2 A v := by
 have hle := shade_le R 1 a s
 by_cases hc : (1 : Int) = 1 ∧ a ∈ objs R ∧ s.1[a.toNat]? = some 0
 ·have e : Go.Proofs.YtpbhcdbkmmjimaaGreatDoor.shade R 1 a s = (s.1.set a.toNat 1,if s.2.1.length < 8 then (s.2.1 ++ [a],s.2.2) else (s.2.1,true)) := by
   unfold Go.Proofs.YtpbhcdbkmmjimaaGreatDoor.shade
   rw [if_pos hc]
  rw [e] at hle ⊢
  have hab := obj_bd hA hc.2.1
  have hl := (List.getElem?_eq_some_iff.1 hc.2.2).1
  have hself : (s.1.set a.toNat 1)[a.toNat]? = some 1 := List.getElem?_set_self hl
  have hne : ∀ b ∈ objs R,b ≠ a → (s.1.set a.toNat 1)[b.toNat]? = s.1[b.toNat]? := fun b hb n => List.getElem?_set_ne (by have := obj_bd hA hb; omega)
  refine ⟨?_,fun b hb hn => ?_,fun b hb => ?_⟩
  ·intro ho b hb hbv hb1
   by_cases h8 : s.2.1.length < 8
   ·rw [if_pos h8] at ho ⊢
    by_cases eb : b = a
    ·exact List.mem_append_right _ (by rw [eb]; exact List.mem_singleton.2 rfl)
    ·exact List.mem_append_left _ (h.all ho b hb hbv (by rw [← hne b hb eb]; exact hb1))
   ·rw [if_neg h8] at ho
    exact absurd (show true = false from ho) (by decide)
  ·by_cases eb : b = a
   ·rw [eb]; exact (hR hc.2.1).mono hle.1 (fun _ k => k)
   ·exact (h.rb b hb (by rw [← hne b hb eb]; exact hn)).mono hle.1 (fun _ k => k)
  ·by_cases eb : b = a
   ·rw [eb]; exact .inr (.inl hself)
   ·have := h.c3 b hb
    rw [← hne b hb eb] at this
    exact this
 ·have e : Go.Proofs.YtpbhcdbkmmjimaaGreatDoor.shade R 1 a s = s := by
   unfold Go.Proofs.YtpbhcdbkmmjimaaGreatDoor.shade
   rw [if_neg hc]
  rw [e]; exact h
theorem Cm.shadeW {R : List Rw} {ws A : List Int} {v w : Int} {s : List Int × List Int × Bool} (hA : AOk R ws) (h : Cm R ws s.1 s.2.1 s.2.2 A v) (hR : w % 2 = 1 → (w - 1) / 2 ∈ objs R → Rb R ws s.1 A ((w - 1) / 2)) : Cm R ws (shadeW R 1 w s).1 (shadeW R 1 w s).2.1 (shadeW R 1 w s).2.2 A v := by
 unfold Go.Proofs.YtpbhcdbkmmjimaaGreatDoor.shadeW
 split
 ·rename_i hw
  exact h.shade hA (hR hw)
 ·exact h
theorem Cm.fold {R : List Rw} {ws A : List Int} {v : Int} (hA : AOk R ws) : ∀ (X : List Int) (s : List Int × List Int × Bool),Cm R ws s.1 s.2.1 s.2.2 A v → (∀ w ∈ X,w % 2 = 1 → (w - 1) / 2 ∈ objs R → Rb R ws s.1 A ((w - 1) / 2)) → Cm R ws (X.foldl (fun s w => Go.Proofs.YtpbhcdbkmmjimaaGreatDoor.shadeW R 1 w s) s).1 (X.foldl (fun s w => Go.Proofs.YtpbhcdbkmmjimaaGreatDoor.shadeW R 1 w s) s).2.1 (X.foldl (fun s w => Go.Proofs.YtpbhcdbkmmjimaaGreatDoor.shadeW R 1 w s) s).2.2 A v
 | [],s,h,_ => h
 | w :: X,s,h,hX => Cm.fold hA X _ (h.shadeW hA (hX w (List.mem_cons_self ..))) fun w' hw' h1 h2 => (hX w' (List.mem_cons_of_mem _ hw') h1 h2).mono (shadeW_le R 1 w s).1 (fun _ k => k)
def Rt (R : List Rw) (C A : List Int) : Prop := ∀ a ∈ A,a ∈ objs R → C[a.toNat]? ≠ some 0
theorem Rt.le {R : List Rw} {C C' A : List Int} (h : Rt R C A) (hc : ∀ p : Nat,C'[p]? = some 0 → C[p]? = some 0) : Rt R C' A := fun a ha ho k => h a ha ho (hc _ k)
structure Cy1 (R : List Rw) (ws C G : List Int) (ov : Bool) (A : List Int) : Prop where
 dk : Dk R ws C
 g : GOk R C G
 cm : Cm R ws C G ov A (-1)
 rt : Rt R C A
theorem beg_all {R : List Rw} {ws : List Int} (hA : AOk R ws) : ∀ (A B : List Int) (s : List Int × List Int × Bool),Cm R ws s.1 s.2.1 s.2.2 B (-1) → GOk R s.1 s.2.1 → Rt R s.1 B → Cm R ws (A.foldl (fun s a => shade R 1 a s) s).1 (A.foldl (fun s a => shade R 1 a s) s).2.1 (A.foldl (fun s a => shade R 1 a s) s).2.2 (B ++ A) (-1) ∧ GOk R (A.foldl (fun s a => shade R 1 a s) s).1 (A.foldl (fun s a => shade R 1 a s) s).2.1 ∧ Rt R (A.foldl (fun s a => shade R 1 a s) s).1 (B ++ A)
 | [],B,s,h1,h2,h3 => by rw [List.append_nil]; exact ⟨h1,h2,h3⟩
 | a :: A,B,s,h1,h2,h3 => by
  have k := beg_all hA A (B ++ [a]) (shade R 1 a s) ((h1.more (fun x hx => List.mem_append_left _ hx)).shade hA (fun ho => .root a (List.mem_append_right _ (List.mem_singleton.2 rfl)) ho)) (shade_gok h2) (fun x hx ho => by
   rcases List.mem_append.1 hx with hx | hx
   ·exact h3.le (shade_le R 1 a s).1 x hx ho
   ·rw [List.mem_singleton.1 hx] at ho ⊢; exact shade_hit R a s ho)
  rw [List.append_assoc] at k
  exact k
theorem Cy1.begin {R : List Rw} {ws C G A : List Int} {ov : Bool} {W : Int} (hA : AOk R ws) (hW : W = 32 * R.length) (h : (C,G,ov) = begS R W A) : Cy1 R ws C G ov A := by
 have hrep : ∀ a ∈ objs R,(List.replicate W.toNat (0 : Int))[a.toNat]? = some 0 := by
  intro a ha
  have := obj_bd hA ha
  rw [List.getElem?_replicate,if_pos (by omega)]
 have k := beg_all hA A [] (List.replicate W.toNat 0,[],false) ⟨fun _ a ha _ h1 => by rw [hrep a ha] at h1; exact absurd (Option.some.inj h1) (by decide),fun a ha hn => absurd (hrep a ha) hn,fun a ha => .inl (hrep a ha)⟩ ⟨fun x hx => (by cases hx),fun x hx => (by cases hx),List.nodup_nil⟩ (fun a ha => by cases ha)
 have h1 : C = (begS R W A).1 := congrArg Prod.fst h
 have h2 : G = (begS R W A).2.1 := congrArg (fun x => x.2.1) h
 have h3 : ov = (begS R W A).2.2 := congrArg (fun x => x.2.2) h
 have hdk := Dk.begin (ws := ws) h
 rw [h1,h2,h3] at *
 exact ⟨hdk,k.2.1,k.1,k.2.2⟩
structure Done (R : List Rw) (ws C A : List Int) : Prop where
 two : ∀ a ∈ objs R,C[a.toNat]? = some 0 ∨ C[a.toNat]? = some 2
 iff : ∀ a ∈ objs R,C[a.toNat]? = some 0 ↔ ¬ Rch R ws A a
 due : ∀ a,¬ Due R ws C a
theorem Cy1.done {R : List Rw} {ws C G A : List Int} {ov : Bool} (h : Cy1 R ws C G ov A) (hg : ∀ a ∈ objs R,C[a.toNat]? ≠ some 1) (hd : ∀ a,¬ Due R ws C a) : Done R ws C A := by
 have htwo : ∀ a ∈ objs R,C[a.toNat]? = some 0 ∨ C[a.toNat]? = some 2 := by
  intro a ha
  rcases h.cm.c3 a ha with q | q | q
  ·exact .inl q
  ·exact absurd q (hg a ha)
  ·exact .inr q
 refine ⟨htwo,fun a ha => ⟨fun h0 hr => ?_,fun hn => Classical.byContradiction fun k => hn (h.cm.rb a ha k).to⟩,hd⟩
 have : ∀ a,Rch R ws A a → C[a.toNat]? ≠ some 0 := by
  intro a hr
  induction hr with
  | root a hm ho => exact h.rt a hm ho
  | next a b hr hl ih =>
   obtain ⟨i,x,hx,hx1,hb,ho⟩ := hl
   rw [← hb] at ho ⊢
   exact h.dk a x i hr.obj ((htwo a hr.obj).resolve_left ih) hx hx1 ho
 exact this a hr h0
abbrev spots (out : List Gn) : List Int := out.map fun g => g.2.1
theorem Cy1.marked {R : List Rw} {ws ws' C C' G G' A : List Int} {ov ov' : Bool} {sp p s : Int} {out : List Gn} (hA : AOk R ws) (hCl : (C.length : Int) = 32 * R.length) (h : Cy1 R ws C G ov A) (hm : Marked R ws C G ov sp out p s ws' C' G' ov') :
  (p = 1 ∧ Cy1 R ws' C' G' ov' (A ++ spots out) ∧ (out = [] ∧ ws' = ws ∨ ∃ a X,out = [(5,a,X,true)] ∧ Wrds R ws a X ∧ Stored R ws a 1 0 0 ws' ∧ Due R ws C a)) ∨ (p = 2 ∧ s = 0 ∧ out = [] ∧ ws' = ws ∧ C' = C ∧ Done R ws C A) := by
 have hg0 : ∀ x ∈ G,0 ≤ x := fun x hx => (obj_bd hA (h.g.obj x hx)).1
 have hgo : p = 1 → GOk R C' G' := by
  intro hp
  rcases (marked_cy (N := 1) hA hCl (by omega) h.g hm).1 with ⟨_,k,_⟩ | ⟨k,_⟩ | ⟨k,_⟩
  ·exact k
  ·omega
  ·omega
 have hdk := Dk.marked hA hg0 hCl h.dk hm
 cases hm with
 | scan v A0 X _ _ o1 _ hg hX hs =>
  have hC : C' = (X.foldl (fun s w => shadeW R 1 w s) (C,A0,o1)).1.set v.toNat 2 := congrArg Prod.fst hs
  have hG : G' = (X.foldl (fun s w => shadeW R 1 w s) (C,A0,o1)).2.1 := congrArg (fun x => x.2.1) hs
  have hO : ov' = (X.foldl (fun s w => shadeW R 1 w s) (C,A0,o1)).2.2 := congrArg (fun x => x.2.2) hs
  obtain ⟨hv,hv1,hall⟩ : v ∈ objs R ∧ C[v.toNat]? = some 1 ∧ (o1 = false → ∀ a ∈ objs R,a ≠ v → C[a.toNat]? = some 1 → a ∈ A0) := by
   cases hg with
   | pop _ _ hGA =>
    refine ⟨h.g.obj v (by rw [hGA]; simp),h.g.grey v (by rw [hGA]; simp),fun ho a ha hav h1 => ?_⟩
    have := h.cm.all ho a ha (by have := obj_bd hA ha; omega) h1
    rw [hGA] at this
    rcases List.mem_append.1 this with q | q
    ·exact q
    ·exact absurd (List.mem_singleton.1 q) hav
   | found _ _ _ _ ha hc _ => exact ⟨List.mem_of_getElem? ha,hc,fun ho => absurd ho (by decide)⟩
  have hvn : C[v.toNat]? ≠ some 0 := by rw [hv1]; exact fun q => absurd (Option.some.inj q) (by decide)
  have hF := Cm.fold (v := v) (A := A) hA X (C,A0,o1) ⟨hall,h.cm.rb,h.cm.c3⟩ (fun w hw h1 h2 => by
   obtain ⟨i,hi⟩ := List.getElem?_of_mem hw
   exact .next v _ (h.cm.rb v hv hvn) hvn ⟨i,w,hX.2 i w hi,h1,rfl,h2⟩)
  have hle := fold_le R 1 X (C,A0,o1)
  have hgr := fold_grey R 1 X (C,A0,o1) _ hv1
  generalize (X.foldl (fun s w => shadeW R 1 w s) (C,A0,o1)) = F at hC hG hO hF hle hgr
  have hl := (List.getElem?_eq_some_iff.1 hgr).1
  have hself : C'[v.toNat]? = some 2 := by rw [hC]; exact List.getElem?_set_self hl
  have hne : ∀ q : Nat,v.toNat ≠ q → C'[q]? = F.1[q]? := fun q e => by rw [hC,List.getElem?_set_ne e]
  have hw : ∀ q : Nat,C'[q]? = some 0 → F.1[q]? = some 0 := by
   intro q h0
   by_cases e : v.toNat = q
   ·rw [← e,hself] at h0; exact absurd (Option.some.inj h0) (by decide)
   ·rw [← hne q e]; exact h0
  have hnv : ∀ a ∈ objs R,a ≠ v → v.toNat ≠ a.toNat := fun a ha n => by have := obj_bd hA ha; have := obj_bd hA hv; omega
  refine .inl ⟨rfl,⟨hdk rfl,hgo rfl,⟨fun ho a ha _ h1 => ?_,fun a ha hn => ?_,fun a ha => ?_⟩,?_⟩,.inl ⟨rfl,rfl⟩⟩
  ·by_cases e : a = v
   ·rw [e,hself] at h1; exact absurd (Option.some.inj h1) (by decide)
   ·rw [hG]
    exact hF.all (by rw [← hO]; exact ho) a ha e (by rw [← hne _ (hnv a ha e)]; exact h1)
  ·rw [show A ++ spots [] = A from List.append_nil A]
   by_cases e : a = v
   ·rw [e]; exact (h.cm.rb v hv hvn).mono (fun q k => hle.1 q (hw q k)) (fun _ k => k)
   ·exact (hF.rb a ha (by rw [← hne _ (hnv a ha e)]; exact hn)).mono hw (fun _ k => k)
  ·by_cases e : a = v
   ·rw [e]; exact .inr (.inr hself)
   ·rw [hne _ (hnv a ha e)]; exact hF.c3 a ha
  ·rw [show A ++ spots [] = A from List.append_nil A]
   exact h.rt.le fun q k => hle.1 q (hw q k)
 | keep a A0 X _ _ _ o1 _ hg hf hX hst hs =>
  have hC : C' = (shade R 1 a (C,A0,o1)).1 := congrArg Prod.fst hs
  have hG : G' = (shade R 1 a (C,A0,o1)).2.1 := congrArg (fun x => x.2.1) hs
  have hO : ov' = (shade R 1 a (C,A0,o1)).2.2 := congrArg (fun x => x.2.2) hs
  have hall : o1 = false → ∀ b ∈ objs R,b ≠ -1 → C[b.toNat]? = some 1 → b ∈ A0 := by
   cases hg with
   | none hG0 ho => intro _ b hb hb1 h1; have := h.cm.all ho b hb hb1 h1; rw [hG0] at this; cases this
   | settle hG0 ho hn => intro _ b hb _ h1; obtain ⟨i,hi⟩ := List.getElem?_of_mem hb; exact absurd h1 (hn i b hi)
  have hfd : a ∈ objs R ∧ Due R ws C a := by
   cases hf with
   | found _ _ ha hd _ => exact ⟨List.mem_of_getElem? ha,hd⟩
  have hao := hfd.1
  have ha0 := hfd.2.2.1
  have hsh := Cm.shade (R := R) (ws := ws) (v := -1) (a := a) (s := (C,A0,o1)) (A := A ++ [a]) hA (Cm.more ⟨hall,h.cm.rb,h.cm.c3⟩ (fun x hx => List.mem_append_left _ hx)) (fun ho => .root a (List.mem_append_right _ (List.mem_singleton.2 rfl)) ho)
  have hle := shade_le R 1 a (C,A0,o1)
  have hhit := shade_hit R a (C,A0,o1) hao
  have hto := (stored_to hA hst).2
  rw [← hC,← hG,← hO] at hsh
  rw [← hC] at hle hhit
  have hrb : ∀ b,Rb R ws C A b → Rb R ws' C' (A ++ [a]) b := by
   intro b hb
   induction hb with
   | root b hm ho => exact .root b (List.mem_append_left _ hm) ho
   | next b c _ hn hl ih =>
    obtain ⟨i,x,hx,hx1,hc,ho⟩ := hl
    exact .next b c ih (fun k => hn (hle.1 _ k)) ⟨i,x,hto b i x (fun e => hn (by rw [e]; exact ha0)) hx,hx1,hc,ho⟩
  refine .inl ⟨rfl,⟨hdk rfl,hgo rfl,⟨hsh.all,fun b hb hn => ?_,hsh.c3⟩,?_⟩,.inr ⟨a,X,rfl,hX,hst,hfd.2⟩⟩
  ·show Rb R ws' C' (A ++ [a]) b
   by_cases e : b = a
   ·rw [e]; exact .root a (List.mem_append_right _ (List.mem_singleton.2 rfl)) hao
   ·refine hrb b (h.cm.rb b hb ?_)
    have hab := obj_bd hA hao
    have hbb := obj_bd hA hb
    intro k
    refine hn ?_
    rw [hC]
    unfold shade
    rw [if_pos ⟨rfl,hao,ha0⟩]
    show (C.set a.toNat 1)[b.toNat]? = some 0
    rw [List.getElem?_set_ne (by omega)]
    exact k
  ·intro b hb ho
   have hb : b ∈ A ++ [a] := hb
   rcases List.mem_append.1 hb with hb | hb
   ·exact h.rt.le hle.1 b hb ho
   ·rw [List.mem_singleton.1 hb]; exact hhit
 | sweep A0 o1 hg hf =>
  refine .inr ⟨rfl,rfl,rfl,rfl,rfl,h.done (fun a ha h1 => ?_) (fun a hd => ?_)⟩
  ·cases hg with
   | none hG ho => have := h.cm.all ho a ha (by have := obj_bd hA ha; omega) h1; rw [hG] at this; cases this
   | settle _ _ hn => obtain ⟨i,hi⟩ := List.getElem?_of_mem ha; exact hn i a hi h1
  ·cases hf with
   | none hn =>
    obtain ⟨l,hk⟩ := hd.1
    obtain ⟨i,hi⟩ := List.getElem?_of_mem ((obj_iff hA a).2 hk.obj6)
    exact hn i a hi hd
structure Cy2 (R0 R : List Rw) (ws C A : List Int) (lim : Int) (X : List Int) : Prop where
 done : Done R0 ws C A
 go : ∀ x,x ∈ X ↔ x ∈ objs R0 ∧ C[x.toNat]? = some 0 ∧ x < lim
 rest : ∀ x,x ∈ objs R ↔ x ∈ objs R0 ∧ x ∉ X
 kept : ∀ x k l,Kept R ws x k l → Kept R0 ws x k l
theorem Cy2.swept {R0 R R' : List Rw} {ws C A X : List Int} {sp : Int} {out : List Gn} (hA : AOk R ws) (h : Cy2 R0 R ws C A (32 * sp) X) (hs : SweptTo ws C R (32 * sp) 32 out R') : Cy2 R0 R' ws C A (32 * (sp + 1)) (X ++ spots out) := by
 have f := hs.facts hA
 have hgo : ∀ x,x ∈ X ++ spots out ↔ x ∈ objs R0 ∧ C[x.toNat]? = some 0 ∧ x < 32 * (sp + 1) := by
  intro x
  rw [List.mem_append,h.go x,f.mem x]
  constructor
  ·rintro (⟨h1,h2,h3⟩ | ⟨h1,h2,h3,h4⟩)
   ·exact ⟨h1,h2,by omega⟩
   ·exact ⟨((h.rest x).1 h3).1,h4,by omega⟩
  ·rintro ⟨h1,h2,h3⟩
   by_cases e : x < 32 * sp
   ·exact .inl ⟨h1,h2,e⟩
   ·exact .inr ⟨by omega,by omega,(h.rest x).2 ⟨h1,fun k => e ((h.go x).1 k).2.2⟩,h2⟩
 refine ⟨h.done,hgo,fun x => ?_,fun x k l hk => h.kept x k l (f.kept x k l hk)⟩
 rw [f.left x,h.rest x,List.mem_append]
 constructor
 ·rintro ⟨⟨h1,h2⟩,h3⟩; exact ⟨h1,fun k => k.elim h2 h3⟩
 ·rintro ⟨h1,h2⟩; exact ⟨⟨h1,fun k => h2 (.inl k)⟩,fun k => h2 (.inr k)⟩
def Cyc (R0 R : List Rw) (ws C G : List Int) (ov : Bool) (ph sp N : Int) (A K X : List Int) : Prop :=
 (ph = 1 ∧ R = R0 ∧ X = [] ∧ Cy1 R ws C G ov (A ++ K)) ∨ (ph = 2 ∧ Cy2 R0 R ws C (A ++ K) (32 * sp) X) ∨ (ph = 0 ∧ Cy2 R0 R ws C (A ++ K) (32 * N) X)
def keptOf (out : List Gn) : List Int := (out.filter fun g => g.2.2.2).map fun g => g.2.1
def goneOf (out : List Gn) : List Int := (out.filter fun g => !g.2.2.2).map fun g => g.2.1
theorem Cyc.stepd {R0 R R' : List Rw} {ws ws' C C' G G' A K X : List Int} {ov ov' : Bool} {ph sp cy W N p s y : Int} {out : List Gn} (hA : AOk R ws) (hN : N = R.length) (hW : W = 32 * N) (hCl : (C.length : Int) = W) (hsp : 0 ≤ sp ∧ sp ≤ N) (h : Cyc R0 R ws C G ov ph sp N A K X) (hsN : ph = 2 → sp < N) (hs : Stepd R ws C G ov ph sp cy W out R' ws' C' G' ov' p s y) :
  Cyc R0 R' ws' C' G' ov' p s N A (K ++ keptOf out) (X ++ goneOf out) ∧ (ph ≠ 1 → keptOf out = []) ∧ (ws' = ws ∧ keptOf out = [] ∨ ph = 1 ∧ ∃ a Y,out = [(5,a,Y,true)] ∧ Wrds R ws a Y ∧ Stored R ws a 1 0 0 ws' ∧ Due R ws C a) := by
 cases hs with
 | mark _ _ _ _ _ _ _ hp hm =>
  subst hp
  rcases h with ⟨_,rfl,rfl,h⟩ | ⟨q,_⟩ | ⟨q,_⟩
  ·rcases h.marked hA (by omega) hm with ⟨rfl,h1,⟨rfl,rfl⟩ | ⟨a,Y,rfl,hY,hst,hd⟩⟩ | ⟨rfl,rfl,rfl,rfl,rfl,hd⟩
   ·have h1 : Cy1 R ws' C' G' ov' (A ++ K) := by rw [show A ++ K ++ spots [] = A ++ K from List.append_nil _] at h1; exact h1
    exact ⟨.inl ⟨rfl,rfl,rfl,by rw [show K ++ keptOf [] = K from List.append_nil _]; exact h1⟩,fun _ => rfl,.inl ⟨rfl,rfl⟩⟩
   ·exact ⟨.inl ⟨rfl,rfl,rfl,by rw [← List.append_assoc]; exact h1⟩,fun k => absurd rfl k,.inr ⟨rfl,a,Y,rfl,hY,hst,hd⟩⟩
   ·refine ⟨.inr (.inl ⟨rfl,?_⟩),fun _ => rfl,.inl ⟨rfl,rfl⟩⟩
    rw [show K ++ keptOf [] = K from List.append_nil _]
    exact ⟨hd,fun x => ⟨fun k => (by cases k),fun ⟨k1,_,k2⟩ => (by have := obj_bd hA k1; omega)⟩,fun x => ⟨fun k => ⟨k,fun q => (by cases q)⟩,fun k => k.1⟩,fun _ _ _ k => k⟩
  ·exact absurd q (by decide)
  ·exact absurd q (by decide)
 | sweep _ _ hp hs =>
  subst hp
  rcases h with ⟨q,_⟩ | ⟨_,h⟩ | ⟨q,_⟩
  ·exact absurd q (by decide)
  ·have f := hs.facts hA
   have hfl : ∀ g ∈ out,g.2.2.2 = false := fun g hg => (f.each g hg).2.2
   have hk : keptOf out = [] := by
    unfold keptOf
    rw [List.filter_eq_nil_iff.2 (fun g hg => by rw [hfl g hg]; decide)]
    rfl
   have hg : goneOf out = spots out := by
    unfold goneOf
    rw [List.filter_eq_self.2 (fun g hg => by rw [hfl g hg]; decide)]
   rw [hk,hg,List.append_nil]
   have h2 := h.swept hA hs
   refine ⟨?_,fun _ => rfl,.inl ⟨rfl,rfl⟩⟩
   unfold swPh
   split
   ·have e : sp + 1 = N := by have := hsN rfl; omega
    rw [e] at h2
    exact .inr (.inr ⟨rfl,h2⟩)
   ·exact .inr (.inl ⟨rfl,h2⟩)
  ·exact absurd q (by decide)
 | idle h1 h2 =>
  refine ⟨?_,fun _ => rfl,.inl ⟨rfl,rfl⟩⟩
  rw [show K ++ keptOf [] = K from List.append_nil _,show X ++ goneOf [] = X from List.append_nil _]
  exact h
theorem marked_white {R : List Rw} {ws ws' C C' G G' : List Int} {ov ov' : Bool} {sp p s : Int} {out : List Gn} (hm : Marked R ws C G ov sp out p s ws' C' G' ov') : ∀ q : Nat,C'[q]? = some 0 → C[q]? = some 0 := by
 cases hm with
 | scan v A0 X _ _ o1 _ hg hX hs =>
  have hC : C' = (X.foldl (fun s w => shadeW R 1 w s) (C,A0,o1)).1.set v.toNat 2 := congrArg Prod.fst hs
  have hle := fold_le R 1 X (C,A0,o1)
  generalize (X.foldl (fun s w => shadeW R 1 w s) (C,A0,o1)) = F at hC hle
  intro q hq
  refine hle.1 q ?_
  rw [hC] at hq
  by_cases e : v.toNat = q
  ·subst e
   by_cases hl : v.toNat < F.1.length
   ·rw [List.getElem?_set_self hl] at hq; exact absurd (Option.some.inj hq) (by decide)
   ·rw [List.getElem?_eq_none (by rw [List.length_set]; omega)] at hq; cases hq
  ·rw [List.getElem?_set_ne e] at hq; exact hq
 | keep a A0 X _ _ _ o1 _ hg hf hX hst hs =>
  have hC : C' = (shade R 1 a (C,A0,o1)).1 := congrArg Prod.fst hs
  rw [hC]
  exact (shade_le R 1 a (C,A0,o1)).1
 | sweep A0 o1 hg hf => exact fun q h => h
theorem stepd_keep {R R' : List Rw} {ws ws' C C' G G' : List Int} {ov ov' : Bool} {ph sp cy W p s y x : Int} {out : List Gn} (hA : AOk R ws) (hx : x ∈ objs R ∧ (ph ≠ 0 → C[x.toNat]? ≠ some 0)) (hs : Stepd R ws C G ov ph sp cy W out R' ws' C' G' ov' p s y) : x ∈ objs R' ∧ (p ≠ 0 → C'[x.toNat]? ≠ some 0) := by
 cases hs with
 | mark _ _ _ _ _ _ _ hp hm => exact ⟨hx.1,fun _ k => hx.2 (by omega) (marked_white hm _ k)⟩
 | sweep _ _ hp hs =>
  have f := hs.facts hA
  refine ⟨(f.left x).2 ⟨hx.1,fun k => hx.2 (by omega) ((f.mem x).1 k).2.2.2⟩,fun _ => hx.2 (by omega)⟩
 | idle h1 h2 => exact hx
theorem stepd_kept {R R' : List Rw} {ws ws' C C' G G' : List Int} {ov ov' : Bool} {ph sp cy W p s y : Int} {out : List Gn} (hA : AOk R ws) (hs : Stepd R ws C G ov ph sp cy W out R' ws' C' G' ov' p s y) : ∀ b k l,Kept R' ws' b k l → Kept R ws b k l := by
 cases hs with
 | mark _ _ _ _ _ _ _ hp hm =>
  cases hm with
  | scan _ _ _ _ _ _ _ _ _ _ => exact fun _ _ _ k => k
  | keep _ _ _ _ _ _ _ _ _ _ _ hst _ => exact stored_kept hA hst
  | sweep _ _ _ _ => exact fun _ _ _ k => k
 | sweep _ _ hp hs => exact (hs.facts hA).kept
 | idle h1 h2 => exact fun _ _ _ k => k
theorem stored_own {R : List Rw} {ws ws' : List Int} {a i x e k l : Int} (hA : AOk R ws) (hK : Kept R ws a k l) (hi : 0 ≤ i ∧ i < l) (h : Stored R ws a i x e ws') : e = 0 ∧ Loaded R ws' a i x 0 ∧ ∀ j y,j ≠ i → Loaded R ws a j y 0 → Loaded R ws' a j y 0 := by
 obtain ⟨he,hw⟩ := stored_of hK hi h
 have hk2 := (stored_to hA h).1
 have hb := hK.bounds hA
 have hlen := hA.len
 refine ⟨he,.ok k l x (hk2 _ _ _ hK) hi (by rw [hw]; exact List.getElem?_set_self (by omega)),fun j y hj hl => ?_⟩
 cases hl with
 | ok k' l' _ hK' hj2 hy =>
  refine .ok k' l' y (hk2 _ _ _ hK') hj2 ?_
  rw [hw,List.getElem?_set_ne (by omega)]
  exact hy
structure Chn (R : List Rw) (ws y : List Int) (P : Nat → Prop) : Prop where
 box : ∀ b ∈ y,Kept R ws b 5 2
 nd : y.Nodup
 fin : ∀ a ∈ y,Loaded R ws a 1 0 0
 nxt : ∀ (k : Nat) a b,P k → y[k]? = some a → y[k + 1]? = some b → Loaded R ws a 0 (b * 2 + 1) 0
theorem Chn.store {R : List Rw} {ws ws' y : List Int} {P : Nat → Prop} {k : Nat} {a b e : Int} (hA : AOk R ws) (h : Chn R ws y P) (ha : y[k]? = some a) (hb : y[k + 1]? = some b) (hs : Stored R ws a 0 (b * 2 + 1) e ws') : e = 0 ∧ Chn R ws' y (fun j => j = k ∨ P j) := by
 obtain ⟨h1,h2,h3⟩ := stored_own hA (h.box a (List.mem_of_getElem? ha)) (by omega) hs
 obtain ⟨h4,h5⟩ := stored_to hA hs
 have hl : ∀ c j v,(c = a → j ≠ 0) → Loaded R ws c j v 0 → Loaded R ws' c j v 0 := by
  intro c j v hc hv
  by_cases e : c = a
  ·subst e; exact h3 j v (hc rfl) hv
  ·exact h5 c j v e hv
 refine ⟨h1,fun c hc => h4 _ _ _ (h.box c hc),h.nd,fun c hc => hl c 1 0 (fun _ => by decide) (h.fin c hc),fun j c d hj hc hd => ?_⟩
 by_cases e : j = k
 ·subst e
  rw [ha] at hc; rw [hb] at hd
  obtain rfl := Option.some.inj hc
  obtain rfl := Option.some.inj hd
  exact h2
 ·refine hl c 0 _ (fun ec => ?_) (h.nxt j c d (hj.resolve_left e) hc hd)
  subst ec
  have hjl := (List.getElem?_eq_some_iff.1 hc).1
  exact absurd ((List.getElem?_inj hjl h.nd).1 (hc.trans ha.symm)) e
structure At (C G : List Int) (ov : Bool) (y : List Int) (k : Nat) : Prop where
 g : ∃ a,y[k]? = some a ∧ G = [a]
 ov : ov = false
 wh : ∀ (j : Nat) b,k < j → y[j]? = some b → C[b.toNat]? = some 0
theorem loaded_one {R : List Rw} {ws : List Int} {a i x y : Int} (h1 : Loaded R ws a i x 0) (h2 : Loaded R ws a i y 0) : x = y := by
 cases h1 with
 | ok _ _ _ _ _ q1 => cases h2 with
  | ok _ _ _ _ _ q2 => rw [q1] at q2; exact Option.some.inj q2
theorem At.step {R R' : List Rw} {ws ws' C C' G G' y : List Int} {ov ov' : Bool} {ph sp cy W p s yy : Int} {out : List Gn} {k : Nat} {P : Nat → Prop} (hA : AOk R ws) (hc : Chn R ws y P) (hP : P k) (h : At C G ov y k) (hk : k + 1 < y.length) (hph : ph = 1) (hs : Stepd R ws C G ov ph sp cy W out R' ws' C' G' ov' p s yy) : p = 1 ∧ s = sp ∧ yy = cy ∧ R' = R ∧ ws' = ws ∧ At C' G' ov' y (k + 1) := by
 obtain ⟨a,ha,hG⟩ := h.g
 obtain ⟨b,hb⟩ : ∃ b,y[k + 1]? = some b := ⟨_,List.getElem?_eq_getElem hk⟩
 have ham := List.mem_of_getElem? ha
 have hbm := List.mem_of_getElem? hb
 have hKa := hc.box a ham
 cases hs with
 | mark _ _ _ _ _ _ _ hp hm =>
  cases hm with
  | scan v A0 X _ _ o1 _ hg hX hs =>
   have hvA : v = a ∧ A0 = [] ∧ o1 = false := by
    cases hg with
    | pop _ _ hGA =>
     rw [hG] at hGA
     have hl : A0.length = 0 := by have := congrArg List.length hGA; simp at this; exact this ▸ rfl
     have hA0 : A0 = [] := List.eq_nil_of_length_eq_zero hl
     subst hA0
     exact ⟨(by simpa using hGA.symm),rfl,h.ov⟩
    | found _ _ hG0 _ _ _ _ => rw [hG] at hG0; cases hG0
   obtain ⟨rfl,rfl,rfl⟩ := hvA
   have hX2 : X = [b * 2 + 1,0] := by
    have hl2 : X.length = 2 := by
     have hl := hX.1
     generalize hxl : (X.length : Int) = xl at hl
     cases hl with
     | no hn => exact absurd hKa.obj6 hn
     | is k2 l2 hK2 => have := (hKa.det9 hK2).2; omega
    match X,hl2,hX with
    | [x0,x1],_,hX =>
     have e0 := loaded_one (hX.2 0 x0 rfl) (hc.nxt k _ b hP ha hb)
     have e1 := loaded_one (hX.2 1 x1 rfl) (hc.fin _ ham)
     rw [e0,e1]
   have hbo : b ∈ objs R := (obj_iff hA b).2 (hc.box b hbm).obj6
   have hb0 := h.wh (k + 1) b (by omega) hb
   have hsh : ∀ s : List Int × List Int × Bool,shadeW R 1 0 s = s := fun s => by unfold shadeW; rw [if_neg (by decide)]
   have hs1 : shadeW R 1 (b * 2 + 1) (C,[],false) = (C.set b.toNat 1,[b],false) := by
    unfold shadeW
    rw [if_pos (by omega),show (b * 2 + 1 - 1) / 2 = b by omega]
    unfold shade
    rw [if_pos ⟨rfl,hbo,hb0⟩]
    rfl
   have hF : scanS R 1 v X (C,[],false) = ((C.set b.toNat 1).set v.toNat 2,[b],false) := by
    unfold scanS
    rw [hX2]
    simp only [List.foldl_cons,List.foldl_nil,hs1,hsh]
   rw [hF] at hs
   cases hs
   refine ⟨rfl,rfl,rfl,rfl,rfl,⟨b,hb,rfl⟩,rfl,fun j c hj hcy => ?_⟩
   have hcm := List.mem_of_getElem? hcy
   have hne : ∀ (i : Nat) d,i < j → y[i]? = some d → d.toNat ≠ c.toNat := by
    intro i d hi hd e
    have b1 := (hc.box d (List.mem_of_getElem? hd)).bounds hA
    have b2 := (hc.box c hcm).bounds hA
    have e : d = c := by omega
    subst e
    have := (List.getElem?_inj (List.getElem?_eq_some_iff.1 hd).1 hc.nd).1 (hd.trans hcy.symm)
    omega
   rw [List.getElem?_set_ne (hne k _ (by omega) ha),List.getElem?_set_ne (hne (k + 1) _ (by omega) hb)]
   exact h.wh j c (by omega) hcy
  | keep a2 A0 X _ _ _ o1 _ hg hf hX hst hs =>
   exfalso
   cases hg with
   | none h1 _ => rw [hG] at h1; cases h1
   | settle h1 _ _ => rw [hG] at h1; cases h1
  | sweep A0 o1 hg hf =>
   exfalso
   cases hg with
   | none h1 _ => rw [hG] at h1; cases h1
   | settle h1 _ _ => rw [hG] at h1; cases h1
 | sweep _ _ hp _ => omega
 | idle h1 _ => exact absurd hph h1
theorem At.begin {R : List Rw} {ws C G y : List Int} {ov : Bool} {W N a : Int} {P : Nat → Prop} (hA : AOk R ws) (hW : W = 32 * R.length) (hc : Chn R ws y P) (ha : y[0]? = some a) (h : (C,G,ov) = begS R W [a]) : At C G ov y 0 ∧ CyI R C G 1 0 0 N ∧ C[a.toNat]? ≠ some 0 := by
 have ham := List.mem_of_getElem? ha
 have hrep : ∀ b ∈ y,(List.replicate W.toNat (0 : Int))[b.toNat]? = some 0 := by
  intro b hb
  have := (hc.box b hb).bounds hA
  rw [List.getElem?_replicate,if_pos (by omega)]
 have hao : a ∈ objs R := (obj_iff hA a).2 (hc.box a ham).obj6
 have h : (C,G,ov) = ((List.replicate W.toNat 0).set a.toNat 1,[a],false) := by
  rw [h]
  show shade R 1 a (List.replicate W.toNat 0,[],false) = _
  unfold shade
  rw [if_pos ⟨rfl,hao,hrep a ham⟩]
  rfl
 cases h
 have hl := (List.getElem?_eq_some_iff.1 (hrep a ham)).1
 have hself : ((List.replicate W.toNat (0 : Int)).set a.toNat 1)[a.toNat]? = some 1 := List.getElem?_set_self hl
 refine ⟨⟨⟨a,ha,rfl⟩,rfl,fun j b hj hb => ?_⟩,.inl ⟨rfl,⟨fun x hx => ?_,fun x hx => ?_,by simp⟩,rfl⟩,by rw [hself]; decide⟩
 ·have hbm := List.mem_of_getElem? hb
  rw [List.getElem?_set_ne]
  ·exact hrep b hbm
  ·intro e
   have b1 := (hc.box a ham).bounds hA
   have b2 := (hc.box b hbm).bounds hA
   have e : a = b := by omega
   subst e
   have := (List.getElem?_inj (List.getElem?_eq_some_iff.1 ha).1 hc.nd).1 (ha.trans hb.symm)
   omega
 ·rw [List.mem_singleton.1 hx]; exact hao
 ·rw [List.mem_singleton.1 hx]; exact hself
structure Grown (R : List Rw) (ws l : List Int) : Prop where
 box : ∀ b ∈ l,Kept R ws b 5 2
 nd : l.Nodup
 zero : ∀ a ∈ l,∀ j,0 ≤ j → j < 2 → ws[(a + 1 + j).toNat]? = some 0
 cnt : objCount R = l.length
theorem Grown.alloc {R R' : List Rw} {ws ws' l : List Int} {a e : Int} (hA : AOk R ws) (h : Grown R ws l) (hr : l.length < R.length) (hs : Alloct R ws 5 2 a e R' ws') : e = 0 ∧ Grown R' ws' (l ++ [a]) := by
 have he : e = 0 := by have := alloct_err hA hs (by rw [h.cnt]; omega); rw [if_pos (by decide)] at this; exact this
 obtain ⟨h1,h2,h3,h4,h5,_,h7⟩ := alloct_ok hA hs he
 refine ⟨he,fun b hb => ?_,?_,fun b hb j hj0 hj1 => ?_,?_⟩
 ·rcases List.mem_append.1 hb with hb | hb
  ·exact h5 b 5 2 (h.box b hb)
  ·rw [List.mem_singleton.1 hb]; exact h1
 ·rw [List.nodup_append]
  refine ⟨h.nd,by simp,fun x hx y hy e => ?_⟩
  rw [List.mem_singleton.1 hy] at e
  subst e
  exact h2 (h.box x hx).obj6
 ·rcases List.mem_append.1 hb with hb | hb
  ·rw [h7 b 5 2 j (h.box b hb) hj0 hj1]; exact h.zero b hb j hj0 hj1
  ·rw [List.mem_singleton.1 hb]; exact h4 j hj0 hj1
 ·rw [h3,h.cnt,List.length_append]; rfl
theorem Grown.chn {R : List Rw} {ws l : List Int} (h : Grown R ws l) : Chn R ws l (fun _ => False) :=
 ⟨h.box,h.nd,fun a ha => .ok 5 2 0 (h.box a ha) (by omega) (h.zero a ha 1 (by omega) (by omega)),fun _ _ _ k => k.elim⟩
def uu (e : Rw) : Nat := if e.2 = [] then 0 else 1
def ff (c : Int) (e : Rw) : Nat := if e.1 = c ∧ e.2 ≠ [] then 1 else 0
def sl_ (c : Int) (e : Rw) : Nat := if e.1 = c then e.2.count true else 0
def cnt (f : Rw → Nat) (R : List Rw) : Nat := (R.map f).sum
theorem cnt_set {f : Rw → Nat} {R : List Rw} {i : Nat} {e e' : Rw} (h : R[i]? = some e) : cnt f (R.set i e') + f e = cnt f R + f e' := by
 unfold cnt
 rw [List.map_set]
 exact sum_set _ _ _ _ (by rw [List.getElem?_map,h]; rfl)
theorem cnt_mul {f g : Rw → Nat} {k : Nat} : ∀ {R : List Rw},(∀ e ∈ R,f e = k * g e) → cnt f R = k * cnt g R
 | [],_ => rfl
 | e :: R,h => by
  have h1 := h e (List.mem_cons_self ..)
  have h2 := cnt_mul (R := R) fun x hx => h x (List.mem_cons_of_mem _ hx)
  unfold cnt at h2 ⊢
  simp only [List.map_cons,List.sum_cons]
  rw [h1,h2,Nat.mul_add]
theorem cnt_le2 {f g h : Rw → Nat} : ∀ {R : List Rw},(∀ e ∈ R,f e + g e ≤ h e) → cnt f R + cnt g R ≤ cnt h R
 | [],_ => Nat.le_refl _
 | e :: R,H => by
  have h1 := H e (List.mem_cons_self ..)
  have h2 := cnt_le2 (R := R) fun x hx => H x (List.mem_cons_of_mem _ hx)
  unfold cnt at h2 ⊢
  simp only [List.map_cons,List.sum_cons]
  omega
theorem cnt_uu : ∀ {R : List Rw},(∀ e ∈ R,e.2 ≠ []) → cnt uu R = R.length
 | [],_ => rfl
 | e :: R,h => by
  have h1 := h e (List.mem_cons_self ..)
  have h2 := cnt_uu (R := R) fun x hx => h x (List.mem_cons_of_mem _ hx)
  unfold cnt at h2 ⊢
  simp only [List.map_cons,List.sum_cons,List.length_cons]
  rw [h2]
  unfold uu
  rw [if_neg h1]
  omega
theorem slots_in (R : List Rw) : cnt (sl_ 0) R + cnt (sl_ 2) R ≤ objCount R := by
 have := cnt_le2 (f := sl_ 0) (g := sl_ 2) (h := fun e => e.2.count true) (R := R) (fun e _ => by
  unfold sl_
  by_cases h0 : e.1 = 0
  ·rw [if_pos h0,if_neg (by omega)]; exact Nat.le_refl _
  ·rw [if_neg h0]
   by_cases h2 : e.1 = 2
   ·rw [if_pos h2]; omega
   ·rw [if_neg h2]; omega)
 exact this
structure Rm (R : List Rw) : Prop where
 u : cnt uu R ≤ cnt (ff 0) R + cnt (ff 2) R
 a : 8 * cnt (ff 0) R ≤ cnt (sl_ 0) R + 7
 b : 2 * cnt (ff 2) R ≤ cnt (sl_ 2) R + 1
theorem Rm.new (n : Nat) : Rm (List.replicate n ((0,[]) : Rw)) := by
 have h : ∀ f : Rw → Nat,f (0,[]) = 0 → cnt f (List.replicate n ((0,[]) : Rw)) = 0 := by
  intro f hf
  unfold cnt
  rw [List.map_replicate,hf]
  induction n with
  | zero => rfl
  | succ n ih => rw [List.replicate_succ,List.sum_cons,ih]
 have e1 := h uu (by decide)
 have e2 := h (ff 0) (by decide)
 have e3 := h (ff 2) (by decide)
 exact ⟨by omega,by omega,by omega⟩
theorem count_full {m : List Bool} (h : false ∉ m) : m.count true = m.length := by
 rw [List.count_eq_length]
 intro b hb
 cases b with
 | true => rfl
 | false => exact absurd hb h
theorem Rm.alloced {R R' : List Rw} {c i s : Int} (hR : RowsOk R) (h : Rm R) (hc : c = 0 ∨ c = 2) (ha : Alloced R c i s true R') : Rm R' := by
 cases ha with
 | old i s l h0 hi hs h1 h2 =>
  have hne : l ≠ [] := by intro e; subst e; simp at hs
  have hne2 : l.set s true ≠ [] := by intro e; exact hne (by have := congrArg List.length e; rw [List.length_set] at this; exact List.eq_nil_of_length_eq_zero this)
  have hct := count_set hs
  have q1 := cnt_set (f := uu) (e' := (c,l.set s true)) hi
  have q2 := cnt_set (f := ff 0) (e' := (c,l.set s true)) hi
  have q3 := cnt_set (f := ff 2) (e' := (c,l.set s true)) hi
  have q4 := cnt_set (f := sl_ 0) (e' := (c,l.set s true)) hi
  have q5 := cnt_set (f := sl_ 2) (e' := (c,l.set s true)) hi
  have ha := h.a; have hb := h.b; have hu := h.u
  rcases hc with rfl | rfl
  ·simp [uu,ff,sl_,hne,hne2] at q1 q2 q3 q4 q5
   exact ⟨by omega,by omega,by omega⟩
  ·simp [uu,ff,sl_,hne,hne2] at q1 q2 q3 q4 q5
   exact ⟨by omega,by omega,by omega⟩
 | fresh i d h0 h2 hi h3 =>
  have hfull : ∀ k : Nat,slotsOf c = k → cnt (sl_ c) R = k * cnt (ff c) R := by
   intro k hk
   refine cnt_mul fun e he => ?_
   unfold sl_ ff
   by_cases h1 : e.1 = c
   ·rw [if_pos h1]
    by_cases h4 : e.2 = []
    ·rw [if_neg (fun q => q.2 h4),h4]; rfl
    ·rw [if_pos ⟨h1,h4⟩]
     obtain ⟨j,hj⟩ := List.getElem?_of_mem he
     have h5 := h2 j e.2 (by rw [hj,← h1])
     have h6 := (hR e he).2 h4
     rw [count_full h5,h6.2.1,h1,hk]; omega
   ·rw [if_neg h1,if_neg (fun q => h1 q.1)]; omega
  have ha := h.a; have hb := h.b; have hu := h.u
  rcases hc with rfl | rfl
  ·have q0 := hfull 8 rfl
   have q1 := cnt_set (f := uu) (e' := ((0 : Int),(List.replicate (slotsOf 0) false).set 0 true)) hi
   have q2 := cnt_set (f := ff 0) (e' := ((0 : Int),(List.replicate (slotsOf 0) false).set 0 true)) hi
   have q3 := cnt_set (f := ff 2) (e' := ((0 : Int),(List.replicate (slotsOf 0) false).set 0 true)) hi
   have q4 := cnt_set (f := sl_ 0) (e' := ((0 : Int),(List.replicate (slotsOf 0) false).set 0 true)) hi
   have q5 := cnt_set (f := sl_ 2) (e' := ((0 : Int),(List.replicate (slotsOf 0) false).set 0 true)) hi
   have k1 : uu ((0 : Int),(List.replicate (slotsOf 0) false).set 0 true) = 1 := by decide
   have k2 : ff 0 ((0 : Int),(List.replicate (slotsOf 0) false).set 0 true) = 1 := by decide
   have k3 : ff 2 ((0 : Int),(List.replicate (slotsOf 0) false).set 0 true) = 0 := by decide
   have k4 : sl_ 0 ((0 : Int),(List.replicate (slotsOf 0) false).set 0 true) = 1 := by decide
   have k5 : sl_ 2 ((0 : Int),(List.replicate (slotsOf 0) false).set 0 true) = 0 := by decide
   have k6 : ∀ c,ff c (d,[]) = 0 := fun c => by simp [ff]
   have k7 : ∀ c,sl_ c (d,[]) = 0 := fun c => by simp [sl_]
   have k8 : uu (d,[]) = 0 := by simp [uu]
   rw [k1,k8] at q1; rw [k2,k6] at q2; rw [k3,k6] at q3; rw [k4,k7] at q4; rw [k5,k7] at q5
   exact ⟨by omega,by omega,by omega⟩
  ·have q0 := hfull 2 rfl
   have q1 := cnt_set (f := uu) (e' := ((2 : Int),(List.replicate (slotsOf 2) false).set 0 true)) hi
   have q2 := cnt_set (f := ff 0) (e' := ((2 : Int),(List.replicate (slotsOf 2) false).set 0 true)) hi
   have q3 := cnt_set (f := ff 2) (e' := ((2 : Int),(List.replicate (slotsOf 2) false).set 0 true)) hi
   have q4 := cnt_set (f := sl_ 0) (e' := ((2 : Int),(List.replicate (slotsOf 2) false).set 0 true)) hi
   have q5 := cnt_set (f := sl_ 2) (e' := ((2 : Int),(List.replicate (slotsOf 2) false).set 0 true)) hi
   have k1 : uu ((2 : Int),(List.replicate (slotsOf 2) false).set 0 true) = 1 := by decide
   have k2 : ff 0 ((2 : Int),(List.replicate (slotsOf 2) false).set 0 true) = 0 := by decide
   have k3 : ff 2 ((2 : Int),(List.replicate (slotsOf 2) false).set 0 true) = 1 := by decide
   have k4 : sl_ 0 ((2 : Int),(List.replicate (slotsOf 2) false).set 0 true) = 0 := by decide
   have k5 : sl_ 2 ((2 : Int),(List.replicate (slotsOf 2) false).set 0 true) = 1 := by decide
   have k6 : ∀ c,ff c (d,[]) = 0 := fun c => by simp [ff]
   have k7 : ∀ c,sl_ c (d,[]) = 0 := fun c => by simp [sl_]
   have k8 : uu (d,[]) = 0 := by simp [uu]
   rw [k1,k8] at q1; rw [k2,k6] at q2; rw [k3,k6] at q3; rw [k4,k7] at q4; rw [k5,k7] at q5
   exact ⟨by omega,by omega,by omega⟩
theorem Rm.alloc {R R' : List Rw} {ws ws' : List Int} {kind n a e : Int} (hA : AOk R ws) (h : Rm R) (hn : ofN n = 0 ∨ ofN n = 2) (hk : 0 ≤ n ∧ n ≤ 31 ∧ 1 ≤ kind ∧ kind ≤ 6) (hr : objCount R ≤ 53) (hl : 29 ≤ R.length) (hs : Alloct R ws kind n a e R' ws') : e = 0 ∧ Rm R' := by
 cases hs with
 | arg h1 => exact absurd hk h1
 | room i s _ h1 ha =>
  exfalso
  cases ha with
  | no h0 => exact absurd h0 (ofN_slots n)
  | full h0 h2 h3 =>
   have hu := cnt_uu (R := R) (fun e he hE => by
    obtain ⟨j,hj⟩ := List.getElem?_of_mem he
    exact h3 j e.1 (by rw [hj,← hE]))
   have := slots_in R
   have := h.u; have := h.a; have := h.b
   omega
 | ok i s _ _ h1 ha hi hat => exact ⟨rfl,h.alloced hA.rows hn ha⟩
theorem nodup_le {l m : List Int} (h : l.Nodup) (hs : ∀ x ∈ l,x ∈ m) : l.length ≤ m.length := by
 induction l generalizing m with
 | nil => exact Nat.zero_le _
 | cons x l ih =>
  have hx := hs x (List.mem_cons_self ..)
  have hn := List.nodup_cons.1 h
  have := ih (m := m.erase x) hn.2 (fun y hy => (List.mem_erase_of_ne (show y ≠ x from fun e => hn.1 (e ▸ hy))).2 (hs y (List.mem_cons_of_mem _ hy)))
  have hl := List.length_erase_of_mem hx
  have hp : 0 < m.length := List.length_pos_of_mem hx
  simp only [List.length_cons]
  omega
theorem objs_nodup {R : List Rw} (hR : RowsOk R) : (objs R).Nodup := by
 rw [List.nodup_iff_pairwise_ne,List.pairwise_iff_getElem]
 intro i j hi hj hij
 have := objs_lt hR hij (List.getElem?_eq_getElem hi) (List.getElem?_eq_getElem hj)
 omega
theorem Cyc.left0 {R0 R : List Rw} {ws C G A K X : List Int} {ov : Bool} {ph sp N : Int} (hA : AOk R0 ws) (hN : N = R0.length) (h : Cyc R0 R ws C G ov ph sp N A K X) (hp : ph = 0) : ∀ x,x ∈ objs R ↔ Rch R0 ws (A ++ K) x := by
 rcases h with ⟨q,_⟩ | ⟨q,_⟩ | ⟨_,h⟩
 ·omega
 ·omega
 ·intro x
  rw [h.rest x,h.go x]
  constructor
  ·rintro ⟨h1,h2⟩
   refine Classical.byContradiction fun k => h2 ⟨h1,(h.done.iff x h1).2 k,by have := obj_bd hA h1; omega⟩
  ·intro hr
   exact ⟨hr.obj,fun k => (h.done.iff x hr.obj).1 k.2.1 hr⟩
structure Ov (R : List Rw) (ws g kp : List Int) : Prop where
 ob : ∀ b ∈ kp,b ∈ objs R
 nd : kp.Nodup
 wd : ∀ a i x,Loaded R ws a i x 0 → x = 0 ∨ ∃ b ∈ kp,x = b * 2 + 1
 bx : ∀ a l x,Kept R ws a 5 l → Loaded R ws a 1 x 0 → x = 0
 gk : ∀ b ∈ g,b ∈ kp ∧ Kept R ws b 4 10
 kr : ∀ b ∈ kp,b ∈ g ∨ ∃ r ∈ g,∃ i,Loaded R ws r i (b * 2 + 1) 0
theorem Ov.rch {R : List Rw} {ws g kp : List Int} (h : Ov R ws g kp) : ∀ x,Rch R ws g x ↔ x ∈ kp := by
 intro x
 constructor
 ·intro hr
  cases hr with
  | root a hg _ => exact (h.gk _ hg).1
  | next a b _ hl =>
   obtain ⟨i,w,hw,h1,hb,ho⟩ := hl
   rcases h.wd a i w hw with q | ⟨c,hc,q⟩
   ·omega
   ·have : c = x := by omega
    rw [← this]; exact hc
 ·intro hx
  rcases h.kr x hx with hg | ⟨r,hr,i,hl⟩
  ·exact .root x hg (h.ob x hx)
  ·exact .next r x (.root r hr (h.ob r (h.gk r hr).1)) ⟨i,_,hl,by omega,by omega,h.ob x hx⟩
theorem Ov.nodue {R : List Rw} {ws g kp C : List Int} (h : Ov R ws g kp) (a : Int) : ¬ Due R ws C a := by
 rintro ⟨⟨l,hK⟩,_,x,hx,hx0⟩
 exact hx0 (h.bx a l x hK hx)
theorem alloct_load {R R' : List Rw} {ws ws' : List Int} {kind n a e : Int} (hA : AOk R ws) (hs : Alloct R ws kind n a e R' ws') (he : e = 0) :
  (∀ b i x,Loaded R' ws' b i x 0 → (b = a ∧ x = 0) ∨ Loaded R ws b i x 0) ∧ (∀ b i x,Loaded R ws b i x 0 → Loaded R' ws' b i x 0) ∧ (∀ b k l,Kept R' ws' b k l → (b = a ∧ k = kind) ∨ Kept R ws b k l) := by
 obtain ⟨h1,h2,_,h4,h5,h6,h7⟩ := alloct_ok hA hs he
 have hk : ∀ b k l,b ≠ a → Kept R' ws' b k l → Kept R ws b k l := by
  intro b k l hne hK
  rcases h6 b hK.obj6 with q | q
  ·exact absurd q hne
  ·obtain ⟨k2,l2,hK2⟩ := Kept.of hA q
   obtain ⟨e1,e2⟩ := (h5 b k2 l2 hK2).det9 hK
   rw [← e1,← e2]; exact hK2
 refine ⟨fun b i x hl => ?_,fun b i x hl => ?_,fun b k l hK => ?_⟩
 ·cases hl with
  | ok k l _ hK hi hx =>
   by_cases e : b = a
   ·subst e
    obtain ⟨_,e2⟩ := hK.det9 h1
    have := h4 i hi.1 (by omega)
    rw [hx] at this
    exact .inl ⟨rfl,Option.some.inj this⟩
   ·have hK0 := hk b k l e hK
    exact .inr (.ok k l x hK0 hi (by rw [← h7 b k l i hK0 hi.1 hi.2]; exact hx))
 ·cases hl with
  | ok k l _ hK hi hx => exact .ok k l x (h5 b k l hK) hi (by rw [h7 b k l i hK hi.1 hi.2]; exact hx)
 ·by_cases e : b = a
  ·subst e
   exact .inl ⟨rfl,(hK.det9 h1).1⟩
  ·exact .inr (hk b k l e hK)
theorem Ov.alloc {R R' : List Rw} {ws ws' g kp : List Int} {kind n a e : Int} (hA : AOk R ws) (h : Ov R ws g kp) (hs : Alloct R ws kind n a e R' ws') (he : e = 0) : Ov R' ws' g kp ∧ a ∉ kp ∧ a ∈ objs R' ∧ Kept R' ws' a kind n := by
 obtain ⟨h1,h2,_,h4,h5,h6,h7⟩ := alloct_ok hA hs he
 obtain ⟨k1,k2,k3⟩ := alloct_load hA hs he
 have hA' := (hA.alloct hs).1
 have hup : ∀ b,b ∈ objs R → b ∈ objs R' := fun b hb => by
  obtain ⟨k,l,hK⟩ := Kept.of hA ((obj_iff hA b).1 hb)
  exact (obj_iff hA' b).2 (h5 b k l hK).obj6
 refine ⟨⟨fun b hb => hup b (h.ob b hb),h.nd,fun b i x hl => ?_,fun b l x hK hl => ?_,fun b hb => ⟨(h.gk b hb).1,h5 b 4 10 (h.gk b hb).2⟩,fun b hb => ?_⟩,fun k => h2 ((obj_iff hA a).1 (h.ob a k)),(obj_iff hA' a).2 h1.obj6,h1⟩
 ·rcases k1 b i x hl with ⟨_,q⟩ | q
  ·exact .inl q
  ·exact h.wd b i x q
 ·rcases k1 b 1 x hl with ⟨_,q⟩ | q
  ·exact q
  ·rcases k3 b 5 l hK with ⟨q2,_⟩ | q2
   ·exfalso
    cases q with
    | ok k l _ hK2 _ _ => exact h2 (q2 ▸ hK2.obj6)
   ·exact h.bx b l x q2 q
 ·rcases h.kr b hb with q | ⟨r,hr,i,q⟩
  ·exact .inl q
  ·exact .inr ⟨r,hr,i,k2 r i _ q⟩
theorem Ov.root {R : List Rw} {ws g kp : List Int} {a : Int} (h : Ov R ws g kp) (hn : a ∉ kp) (ho : a ∈ objs R) (hK : Kept R ws a 4 10) : Ov R ws (g ++ [a]) (kp ++ [a]) := by
 have hin : ∀ l : List Int,a ∈ l ++ [a] := fun l => List.mem_append_right _ (List.mem_singleton.2 rfl)
 refine ⟨fun b hb => ?_,?_,fun b i x hl => ?_,h.bx,fun b hb => ?_,fun b hb => ?_⟩
 ·rcases List.mem_append.1 hb with q | q
  ·exact h.ob b q
  ·rw [List.mem_singleton.1 q]; exact ho
 ·rw [List.nodup_append]
  refine ⟨h.nd,by simp,fun x hx y hy e => ?_⟩
  rw [List.mem_singleton.1 hy] at e
  exact hn (e ▸ hx)
 ·rcases h.wd b i x hl with q | ⟨c,hc,q⟩
  ·exact .inl q
  ·exact .inr ⟨c,List.mem_append_left _ hc,q⟩
 ·rcases List.mem_append.1 hb with q | q
  ·exact ⟨List.mem_append_left _ (h.gk b q).1,(h.gk b q).2⟩
  ·rw [List.mem_singleton.1 q]; exact ⟨hin _,hK⟩
 ·rcases List.mem_append.1 hb with q | q
  ·rcases h.kr b q with q | ⟨r,hr,i,q⟩
   ·exact .inl (List.mem_append_left _ q)
   ·exact .inr ⟨r,List.mem_append_left _ hr,i,q⟩
  ·rw [List.mem_singleton.1 q]; exact .inl (hin _)
theorem Ov.store {R : List Rw} {ws ws' g kp : List Int} {r a i e : Int} (hA : AOk R ws) (h : Ov R ws g kp) (hr : r ∈ g) (hn : a ∉ kp) (ho : a ∈ objs R) (hi : 0 ≤ i ∧ i < 10) (hz : Loaded R ws r i 0 0) (hs : Stored R ws r i (a * 2 + 1) e ws') : e = 0 ∧ Ov R ws' g (kp ++ [a]) ∧ ∀ j y,j ≠ i → Loaded R ws r j y 0 → Loaded R ws' r j y 0 := by
 have hK := (h.gk r hr).2
 obtain ⟨h1,h2,h3⟩ := stored_own hA hK hi hs
 obtain ⟨h4,h5⟩ := stored_to hA hs
 have hin : a ∈ kp ++ [a] := List.mem_append_right _ (List.mem_singleton.2 rfl)
 refine ⟨h1,⟨fun b hb => ?_,?_,fun b j x hl => ?_,fun b l x hK5 hl => ?_,fun b hb => ⟨List.mem_append_left _ (h.gk b hb).1,h4 b 4 10 (h.gk b hb).2⟩,fun b hb => ?_⟩,h3⟩
 ·rcases List.mem_append.1 hb with q | q
  ·exact h.ob b q
  ·rw [List.mem_singleton.1 q]; exact ho
 ·rw [List.nodup_append]
  refine ⟨h.nd,by simp,fun x hx y hy e => ?_⟩
  rw [List.mem_singleton.1 hy] at e
  exact hn (e ▸ hx)
 ·rcases stored_loaded hA hs hl with ⟨_,q⟩ | q
  ·exact .inr ⟨a,hin,q⟩
  ·rcases h.wd b j x q with q | ⟨c,hc,q⟩
   ·exact .inl q
   ·exact .inr ⟨c,List.mem_append_left _ hc,q⟩
 ·have hK0 := stored_kept hA hs b 5 l hK5
  have hne : b ≠ r := by
   rintro rfl
   have := (hK.det9 hK0).1
   omega
  cases hl with
  | ok k l2 _ hKK hj hx =>
   have hb2 := (stored_kept hA hs b k l2 hKK).bounds hA
   have hlen := hA.len
   have hx' : Loaded R ws b 1 x 0 := by
    obtain ⟨_,hw⟩ := stored_of hK hi hs
    obtain ⟨y,hy⟩ : ∃ y,ws[(b + 1 + 1).toNat]? = some y := ⟨_,List.getElem?_eq_getElem (by omega)⟩
    have hly : Loaded R ws b 1 y 0 := .ok k l2 y (stored_kept hA hs b k l2 hKK) hj hy
    have := loaded_one (h5 b 1 y hne hly) (.ok k l2 x hKK hj hx)
    rw [← this]; exact hly
   exact h.bx b l x hK0 hx'
 ·rcases List.mem_append.1 hb with q | q
  ·rcases h.kr b q with q | ⟨r2,hr2,j,q⟩
   ·exact .inl q
   ·refine .inr ⟨r2,hr2,j,?_⟩
    by_cases e1 : r2 = r
    ·subst e1
     by_cases e2 : j = i
     ·subst e2
      have := loaded_one hz q
      omega
     ·exact h3 j _ e2 q
    ·exact h5 r2 j _ e1 q
  ·rw [List.mem_singleton.1 q]; exact .inr ⟨r,hr,i,h2⟩
structure Hst where
 R : List Rw
 ws : List Int
 C : List Int
 G : List Int
 ov : Bool
 ph : Int
 sp : Int
 cy : Int
def Stp (W : Int) (s : Hst) (out : List Gn) (t : Hst) : Prop := Stepd s.R s.ws s.C s.G s.ov s.ph s.sp s.cy W out t.R t.ws t.C t.G t.ov t.ph t.sp t.cy
inductive Many (W : Int) (s : Hst) : Nat → List Gn → Hst → Prop
 | zero : Many W s 0 [] s
 | succ (n : Nat) (out o2 : List Gn) (t u : Hst) (h : Many W s n out t) (hp : t.ph ≠ 0) (hs : Stp W t o2 u) : Many W s (n + 1) (out ++ o2) u
structure Good (N : Int) (s : Hst) : Prop where
 a : AOk s.R s.ws
 n : N = s.R.length
 n1 : 1 ≤ N
 n2 : N ≤ 128
 c : (s.C.length : Int) = 32 * N
 i : s.ph = 0 ∨ CyI s.R s.C s.G s.ph s.sp 0 N
 p : 0 ≤ s.sp ∧ s.sp ≤ N
 y : 0 ≤ s.cy
def Hst.left (N : Int) (s : Hst) : Int := left_ s.R s.C s.ph s.sp N
theorem stepd_lenV {R R' : List Rw} {ws ws' C C' G G' : List Int} {ov ov' : Bool} {ph sp cy W p s y : Int} {out : List Gn} (h : Stepd R ws C G ov ph sp cy W out R' ws' C' G' ov' p s y) : out.length ≤ 32 := by
 cases h with
 | mark _ _ _ _ _ _ _ hp hm =>
  cases hm with
  | scan _ _ _ _ _ _ _ _ _ _ => exact Nat.zero_le _
  | keep _ _ _ _ _ _ _ _ _ _ _ _ _ => show 1 ≤ 32; omega
  | sweep _ _ _ _ => exact Nat.zero_le _
 | sweep _ _ hp hs => exact hs.le
 | idle _ _ => exact Nat.zero_le _
theorem stepd_numsV {R R' : List Rw} {ws C G ws' C' G' : List Int} {ov ov' : Bool} {ph sp cy W p s y : Int} {out : List Gn} (hsp : 0 ≤ sp) (hcy : 0 ≤ cy) (h : Stepd R ws C G ov ph sp cy W out R' ws' C' G' ov' p s y) : 0 ≤ s ∧ s ≤ sp + 1 ∧ 0 ≤ y ∧ y ≤ cy + 1 := by
 cases h with
 | mark _ _ _ _ _ _ _ _ hm => cases hm with
  | scan _ _ _ _ _ _ _ _ _ _ => exact ⟨hsp,by omega,hcy,by omega⟩
  | keep _ _ _ _ _ _ _ _ _ _ _ _ _ => exact ⟨hsp,by omega,hcy,by omega⟩
  | sweep _ _ _ _ => exact ⟨by omega,by omega,hcy,by omega⟩
 | sweep _ _ _ _ =>
  unfold swCy
  split <;> exact ⟨by omega,by omega,by omega,by omega⟩
 | idle _ _ => exact ⟨hsp,by omega,hcy,by omega⟩
theorem shade_lenV (R : List Rw) (ph a : Int) (s : List Int × List Int × Bool) : (shade R ph a s).1.length = s.1.length := by
 unfold shade
 split
 ·exact List.length_set ..
 ·rfl
theorem shadeW_lenV (R : List Rw) (ph w : Int) (s : List Int × List Int × Bool) : (shadeW R ph w s).1.length = s.1.length := by
 unfold shadeW
 split
 ·exact shade_lenV ..
 ·rfl
theorem fold_lenV (R : List Rw) (ph : Int) : ∀ (X : List Int) (s : List Int × List Int × Bool),(X.foldl (fun s w => shadeW R ph w s) s).1.length = s.1.length
 | [],s => rfl
 | w :: X,s => by rw [List.foldl_cons,fold_lenV R ph X,shadeW_lenV]
theorem swept_lenV {ws C : List Int} {R : List Rw} {p : Int} {n : Nat} {out : List Gn} {R' : List Rw} (hA : AOk R ws) (h : SweptTo ws C R p n out R') : AOk R' ws ∧ R'.length = R.length := by
 induction h with
 | zero => exact ⟨hA,rfl⟩
 | skip _ _ _ _ _ ih => exact ih
 | free i out R1 R2 k X h hw hk hX hf ih =>
  obtain ⟨h1,h2⟩ := ih.1.freet hf
  exact ⟨h1,by rw [h2]; exact ih.2⟩
theorem stepd_aok {R R' : List Rw} {ws ws' C C' G G' : List Int} {ov ov' : Bool} {ph sp cy W p s y : Int} {out : List Gn} (hA : AOk R ws) (hCl : (C.length : Int) = 32 * R.length) (h : Stepd R ws C G ov ph sp cy W out R' ws' C' G' ov' p s y) : AOk R' ws' ∧ R'.length = R.length ∧ C'.length = C.length := by
 cases h with
 | mark _ _ _ _ _ _ _ hp hm =>
  cases hm with
  | scan v A X _ _ o1 _ hg hX hs =>
   refine ⟨hA,rfl,?_⟩
   have hC : C' = (X.foldl (fun s w => shadeW R 1 w s) (C,A,o1)).1.set v.toNat 2 := congrArg Prod.fst hs
   rw [hC,List.length_set,fold_lenV]
  | keep a A X _ _ _ o1 _ hg hf hX hst hs =>
   have hC : C' = (shade R 1 a (C,A,o1)).1 := congrArg Prod.fst hs
   refine ⟨hA.stored (by omega) hst,rfl,by rw [hC,shade_lenV]⟩
  | sweep _ _ _ _ => exact ⟨hA,rfl,rfl⟩
 | sweep _ _ hp hs =>
  obtain ⟨h1,h2⟩ := swept_lenV hA hs
  exact ⟨h1,h2,rfl⟩
 | idle _ _ => exact ⟨hA,rfl,rfl⟩
theorem stepd_spV {R R' : List Rw} {ws ws' C C' G G' : List Int} {ov ov' : Bool} {ph sp cy W N p s y : Int} {out : List Gn} (h : CyI R C G ph sp cy N) (hs0 : 0 ≤ sp ∧ sp ≤ N) (hs : Stepd R ws C G ov ph sp cy W out R' ws' C' G' ov' p s y) : 0 ≤ s ∧ s ≤ N := by
 cases hs with
 | mark _ _ _ _ _ _ _ _ hm => cases hm with
  | scan _ _ _ _ _ _ _ _ _ _ => exact hs0
  | keep _ _ _ _ _ _ _ _ _ _ _ _ _ => exact hs0
  | sweep _ _ _ _ => exact ⟨Int.le_refl _,by omega⟩
 | sweep _ _ hp _ =>
  rcases h with ⟨q,_⟩ | ⟨_,_,h0,h1⟩ | ⟨q,_⟩
  ·omega
  ·exact ⟨by omega,by omega⟩
  ·omega
 | idle _ _ => exact hs0
theorem Stepd.cyV {R R' : List Rw} {ws ws' C C' G G' : List Int} {ov ov' : Bool} {ph sp cy W p s y : Int} {out : List Gn} (h : Stepd R ws C G ov ph sp cy W out R' ws' C' G' ov' p s y) : ∃ y0,Stepd R ws C G ov ph sp 0 W out R' ws' C' G' ov' p s y0 := by
 cases h with
 | mark _ _ _ _ _ _ _ hp hm => exact ⟨_,.mark _ _ _ _ _ _ _ hp hm⟩
 | sweep _ _ hp hs => exact ⟨_,.sweep _ _ hp hs⟩
 | idle h1 h2 => exact ⟨_,.idle h1 h2⟩
theorem Good.left0 {N : Int} {s : Hst} (h : Good N s) : 0 ≤ s.left N ∧ (s.ph ≠ 0 → 1 ≤ s.left N) := by
 have h1 := h.n1
 have h2 := h.p
 refine ⟨?_,fun hp => ?_⟩
 ·unfold Hst.left left_
  split
  ·omega
  ·split <;> omega
 ·have hI := h.i.resolve_left hp
  unfold Hst.left left_
  rcases hI with ⟨k,_⟩ | ⟨k,_,_,k2⟩ | ⟨k,_⟩
  ·rw [if_pos k]; omega
  ·rw [if_neg (by omega),if_pos k]; omega
  ·exact absurd k hp
theorem Good.step {N W : Int} {s t : Hst} {out : List Gn} (h : Good N s) (hW : W = 32 * N) (hp : s.ph ≠ 0) (hs : Stp W s out t) : Good N t ∧ t.left N < s.left N ∧ t.cy ≤ s.cy + 1 ∧ out.length ≤ 32 := by
 obtain ⟨y0,hs0⟩ := Stepd.cyV hs
 have hI := h.i.resolve_left hp
 have hn := h.n
 have hc := h.c
 obtain ⟨g1,g2,_⟩ := stepd_cy (at_ := []) h.a (by omega) h.n1 hW hI (fun x hx => by cases hx) hs0
 obtain ⟨a1,a2,a3⟩ := stepd_aok h.a (by omega) hs
 have hm := stepd_numsV h.p.1 h.y hs
 have hsp := stepd_spV hI h.p hs0
 refine ⟨⟨a1,by rw [a2]; exact hn,h.n1,h.n2,by rw [a3]; exact hc,?_,hsp,hm.2.2.1⟩,g2 hp,hm.2.2.2,stepd_lenV hs⟩
 rcases g1 with ⟨k1,k2,_⟩ | ⟨k1,_,k2⟩ | ⟨k,_⟩
 ·exact .inr (.inl ⟨k1,k2,rfl⟩)
 ·exact .inr (.inr (.inl ⟨k1,rfl,k2⟩))
 ·exact .inl k
theorem Many.good {N W : Int} {s t : Hst} {n : Nat} {out : List Gn} (hW : W = 32 * N) (h : Good N s) (hm : Many W s n out t) : Good N t ∧ t.left N + n ≤ s.left N ∧ t.cy ≤ s.cy + n ∧ out.length ≤ 32 * n := by
 induction hm with
 | zero => exact ⟨h,by omega,by omega,Nat.zero_le _⟩
 | succ n out o2 t u _ hp hs ih =>
  obtain ⟨h1,h2,h3,h4⟩ := ih.1.step hW hp hs
  refine ⟨h1,by omega,by omega,?_⟩
  rw [List.length_append]; omega
theorem objCount_le8 {R : List Rw} (hR : RowsOk R) : objCount R ≤ 8 * R.length := by
 unfold objCount
 induction R with
 | nil => exact Nat.zero_le _
 | cons e R ih =>
  have h1 := ih fun x hx => hR x (List.mem_cons_of_mem _ hx)
  have h2 := (hR e (List.mem_cons_self ..)).1
  have h3 := List.count_le_length (a := true) (l := e.2)
  rw [List.map_cons,List.sum_cons,List.length_cons]
  omega
theorem Good.left_le {N : Int} {s : Hst} (h : Good N s) : s.left N ≤ 17 * N + 1 := by
 have h1 := Go.Proofs.YtpbhcdbkmmjimaaGreatDoor.left_le (R := s.R) (C := s.C) (ph := s.ph) (sp := s.sp) (N := N) h.p.1 (by have := h.n1; omega)
 have h2 : ((objs s.R).length : Int) = objCount s.R := by unfold objs; rw [objs_length h.a.rows]
 have h3 := objCount_le8 h.a.rows
 have h4 := h.n
 unfold Hst.left
 omega
theorem Good.begin {N W : Int} {s : Hst} {A C' G' : List Int} {ov' : Bool} (h : Good N s) (hW : W = 32 * N) (hl : (C'.length : Int) = 32 * N) (hb : (C',G',ov') = begS s.R W A) : Good N ⟨s.R,s.ws,C',G',ov',1,s.sp,s.cy⟩ := by
 have hn := h.n
 have hc := Cy1.begin (ws := s.ws) h.a (by omega) hb
 exact ⟨h.a,h.n,h.n1,h.n2,hl,.inr (.inl ⟨rfl,hc.g,rfl⟩),h.p,h.y⟩
inductive Alls (s : Hst) : List (Int × Int) → List Int → Hst → Prop
 | nil : Alls s [] [] s
 | snoc (l : List (Int × Int)) (x : List Int) (t : Hst) (k n a : Int) (R : List Rw) (ws : List Int) (h : Alls s l x t) (ha : Alloct t.R t.ws k n a 0 R ws) : Alls s (l ++ [(k,n)]) (x ++ [a]) ⟨R,ws,allocC t.ph a 0 t.C,t.G,t.ov,t.ph,t.sp,t.cy⟩
structure More (s t : Hst) (x : List Int) : Prop where
 a : AOk t.R t.ws
 obj : ∀ b,b ∈ objs t.R ↔ b ∈ objs s.R ∨ b ∈ x
 new : ∀ b ∈ x,b ∉ objs s.R
 nd : x.Nodup
 cnt : objCount t.R = objCount s.R + x.length
 kept : ∀ b k l,Kept s.R s.ws b k l → Kept t.R t.ws b k l
 ld : ∀ b i w,Loaded s.R s.ws b i w 0 → Loaded t.R t.ws b i w 0
 dl : ∀ b i w,Loaded t.R t.ws b i w 0 → (b ∈ x ∧ w = 0) ∨ Loaded s.R s.ws b i w 0
 col : ∀ b ∈ objs s.R,t.C[b.toNat]? = s.C[b.toNat]?
 coln : ∀ b ∈ x,t.C[b.toNat]? = some (if s.ph = 0 then 0 else 2)
 g : t.G = s.G
 ov : t.ov = s.ov
 ph : t.ph = s.ph
 sp : t.sp = s.sp
 cy : t.cy = s.cy
 len : t.R.length = s.R.length
 cl : t.C.length = s.C.length
theorem More.refl {s : Hst} (hA : AOk s.R s.ws) : More s s [] :=
 ⟨hA,fun b => ⟨.inl,fun h => h.elim id (fun k => by cases k)⟩,fun b hb => (by cases hb),List.nodup_nil,rfl,fun _ _ _ h => h,fun _ _ _ h => h,fun _ _ _ h => .inr h,fun _ _ => rfl,fun b hb => (by cases hb),rfl,rfl,rfl,rfl,rfl,rfl,rfl⟩
theorem More.snoc {s t : Hst} {x : List Int} {N k n a : Int} {R : List Rw} {ws : List Int} (hN : N = s.R.length) (hc : (s.C.length : Int) = 32 * N) (h : More s t x) (ha : Alloct t.R t.ws k n a 0 R ws) : More s ⟨R,ws,allocC t.ph a 0 t.C,t.G,t.ov,t.ph,t.sp,t.cy⟩ (x ++ [a]) := by
 obtain ⟨h1,h2,h3,h4,h5,h6,h7⟩ := alloct_ok h.a ha rfl
 obtain ⟨l1,l2,l3⟩ := alloct_load h.a ha rfl
 obtain ⟨a1,a2⟩ := h.a.alloct ha
 have hna : a ∉ objs t.R := fun q => h2 ((obj_iff h.a a).1 q)
 have hb := h1.bounds a1
 have hlen := h.len
 have hcl := h.cl
 have hC : allocC t.ph a 0 t.C = t.C.set a.toNat (if t.ph = 0 then 0 else 2) := by unfold allocC; rw [if_pos rfl]
 have hne : ∀ b ∈ objs t.R,(t.C.set a.toNat (if t.ph = 0 then 0 else 2))[b.toNat]? = t.C[b.toNat]? := by
  intro b hb2
  refine List.getElem?_set_ne (fun e => hna ?_)
  have := obj_bd h.a hb2
  rw [show a = b by omega]; exact hb2
 refine ⟨a1,fun b => ?_,fun b hb2 => ?_,?_,?_,fun b k l hk => h5 b k l (h.kept b k l hk),fun b i w hl => l2 b i w (h.ld b i w hl),fun b i w hl => ?_,fun b hb2 => ?_,fun b hb2 => ?_,h.g,h.ov,h.ph,h.sp,h.cy,by rw [a2]; exact hlen,(allocC_length t.ph a 0 t.C).trans hcl⟩
 ·rw [List.mem_append,List.mem_singleton]
  constructor
  ·intro hb2
   rcases h6 b ((obj_iff a1 b).1 hb2) with e | e
   ·exact .inr (.inr e)
   ·exact ((h.obj b).1 ((obj_iff h.a b).2 e)).elim .inl (fun q => .inr (.inl q))
  ·rintro (hb2 | hb2 | rfl)
   ·obtain ⟨k',l',hk⟩ := Kept.of h.a ((obj_iff h.a b).1 ((h.obj b).2 (.inl hb2)))
    exact (obj_iff a1 b).2 (h5 b k' l' hk).obj6
   ·obtain ⟨k',l',hk⟩ := Kept.of h.a ((obj_iff h.a b).1 ((h.obj b).2 (.inr hb2)))
    exact (obj_iff a1 b).2 (h5 b k' l' hk).obj6
   ·exact (obj_iff a1 b).2 h1.obj6
 ·rcases List.mem_append.1 hb2 with q | q
  ·exact h.new b q
  ·rw [List.mem_singleton.1 q]; exact fun w => hna ((h.obj a).2 (.inl w))
 ·refine List.nodup_append.2 ⟨h.nd,by simp,fun p hp q hq e => hna ?_⟩
  rw [← List.mem_singleton.1 hq,← e]
  exact (h.obj p).2 (.inr hp)
 ·rw [show objCount (Hst.R _) = objCount R from rfl,h3,h.cnt,List.length_append]; rfl
 ·rcases l1 b i w hl with ⟨e,e2⟩ | e
  ·exact .inl ⟨by rw [e]; exact List.mem_append_right _ (List.mem_singleton.2 rfl),e2⟩
  ·rcases h.dl b i w e with ⟨e1,e2⟩ | e
   ·exact .inl ⟨List.mem_append_left _ e1,e2⟩
   ·exact .inr e
 ·show (allocC t.ph a 0 t.C)[b.toNat]? = _
  rw [hC,hne b ((h.obj b).2 (.inl hb2))]
  exact h.col b hb2
 ·show (allocC t.ph a 0 t.C)[b.toNat]? = _
  rw [hC]
  rcases List.mem_append.1 hb2 with q | q
  ·rw [hne b ((h.obj b).2 (.inr q))]; exact h.coln b q
  ·rw [List.mem_singleton.1 q,← h.ph]
   exact List.getElem?_set_self (by omega)
theorem Alls.more {s t : Hst} {l : List (Int × Int)} {x : List Int} {N : Int} (hA : AOk s.R s.ws) (hN : N = s.R.length) (hc : (s.C.length : Int) = 32 * N) (h : Alls s l x t) : More s t x ∧ x.length = l.length := by
 induction h with
 | nil => exact ⟨More.refl hA,rfl⟩
 | snoc l x t k n a R ws h ha ih => exact ⟨ih.1.snoc hN hc ha,by rw [List.length_append,List.length_append,ih.2]; rfl⟩
theorem More.good {N : Int} {s t : Hst} {x : List Int} (h : Good N s) (hm : More s t x) : Good N t := by
 refine ⟨hm.a,by rw [hm.len]; exact h.n,h.n1,h.n2,by rw [hm.cl]; exact h.c,?_,by rw [hm.sp]; exact h.p,by rw [hm.cy]; exact h.y⟩
 rw [hm.ph]
 refine h.i.imp id fun hI => ?_
 rcases hI with ⟨k,hg,_⟩ | ⟨k,_,k2⟩ | ⟨k,k2⟩
 ·refine .inl ⟨k,?_,rfl⟩
  rw [hm.g]
  exact ⟨fun x hx => (hm.obj x).2 (.inl (hg.obj x hx)),fun x hx => by rw [hm.col x (hg.obj x hx)]; exact hg.grey x hx,hg.once⟩
 ·exact .inr (.inl ⟨k,rfl,by rw [hm.sp]; exact k2⟩)
 ·omega
inductive Backs (R : List Rw) (x : List Int) : Nat → List Rw → Prop
 | zero : Backs R x x.length R
 | next (i : Nat) (a e : Int) (R1 R2 : List Rw) (h : Backs R x (i + 1) R1) (ha : x[i]? = some a) (hf : Freet R1 a e R2) : Backs R x i R2
theorem Backs.facts {R R' : List Rw} {ws x : List Int} {i : Nat} (hA : AOk R ws) (hx : ∀ a ∈ x,a ∈ objs R) (hd : x.Nodup) (h : Backs R x i R') : AOk R' ws ∧ R'.length = R.length ∧ i ≤ x.length ∧ (∀ b w,ObjAt R' b w ↔ ObjAt R b w ∧ b ∉ x.drop i) ∧ objCount R' + (x.length - i) = objCount R := by
 induction h with
 | zero => exact ⟨hA,rfl,Nat.le_refl _,fun b w => ⟨fun k => ⟨k,by rw [List.drop_length]; exact fun q => by cases q⟩,fun k => k.1⟩,by omega⟩
 | next i a e R1 R2 h ha hf ih =>
  obtain ⟨i1,i2,i3,i4,i5⟩ := ih
  have hil := (List.getElem?_eq_some_iff.1 ha).1
  have hdr : x.drop i = a :: x.drop (i + 1) := by rw [List.drop_eq_getElem_cons hil,(List.getElem?_eq_some_iff.1 ha).2]
  have hnd : a ∉ x.drop (i + 1) := by
   have := hd.sublist (List.drop_sublist i x)
   rw [hdr] at this
   exact (List.nodup_cons.1 this).1
  have hao : IsObj R1 a := by
   obtain ⟨w,hw⟩ := isObj_iff.1 ((obj_iff hA a).1 (hx a (List.mem_of_getElem? ha)))
   exact isObj_iff.2 ⟨w,(i4 a w).2 ⟨hw,hnd⟩⟩
  cases hf with
  | none hno => exact absurd hao hno
  | ok q s e he hs hat =>
   obtain ⟨f1,f2,f3,f4⟩ := free_objs i1.rows he hs a hat
   refine ⟨⟨f1,by rw [f2]; exact i1.len,i1.bd,fun b v hb => i1.hdr b v ((f4 b v).1 hb).1⟩,f2.trans i2,by omega,fun b w => ?_,by omega⟩
   rw [f4 b w,i4 b w,hdr,List.mem_cons]
   constructor
   ·rintro ⟨⟨k1,k2⟩,k3⟩; exact ⟨k1,fun q => q.elim k3 k2⟩
   ·rintro ⟨k1,k2⟩; exact ⟨⟨k1,fun q => k2 (.inr q)⟩,fun q => k2 (.inl q)⟩
inductive Allot (s : Hst) (l : List (Int × Int)) : Bool → List Int → Hst → Prop
 | ok (x : List Int) (t : Hst) (h : Alls s l x t) : Allot s l true x t
 | no (i : Nat) (k n a e : Int) (x : List Int) (t : Hst) (R R' : List Rw) (ws : List Int) (hi : l[i]? = some (k,n)) (h : Alls s (l.take i) x t) (ha : Alloct t.R t.ws k n a e R ws) (he : e ≠ 0) (hb : Backs t.R x 0 R') : Allot s l false [] ⟨R',t.ws,t.C,t.G,t.ov,t.ph,t.sp,t.cy⟩
theorem alloct_no {R R' : List Rw} {ws ws' : List Int} {k n a e : Int} (h : Alloct R ws k n a e R' ws') (he : e ≠ 0) : R' = R ∧ ws' = ws ∧ a = 0 := by
 cases h with
 | arg _ => exact ⟨rfl,rfl,rfl⟩
 | room i s _ _ ha => cases ha with
  | no _ => exact ⟨rfl,rfl,rfl⟩
  | full _ _ _ => exact ⟨rfl,rfl,rfl⟩
 | ok _ _ _ _ _ _ _ _ => exact absurd rfl he
theorem Backs.more {s t : Hst} {x : List Int} {R' : List Rw} (hA : AOk s.R s.ws) (h : More s t x) (hb : Backs t.R x 0 R') : More s ⟨R',t.ws,t.C,t.G,t.ov,t.ph,t.sp,t.cy⟩ [] := by
 obtain ⟨b1,b2,b3,b4,b5⟩ := hb.facts h.a (fun a ha => (h.obj a).2 (.inr ha)) h.nd
 have hk : ∀ b k l,b ∉ x → Kept t.R t.ws b k l → Kept R' t.ws b k l := by
  rintro b k l hn ⟨w,q1,q2,q3,q4,q5,q6⟩
  exact .mk k l w ((b4 b w).2 ⟨q1,by rw [List.drop_zero]; exact hn⟩) q2 q3 q4 q5 q6
 have hk2 : ∀ b k l,Kept R' t.ws b k l → b ∉ x ∧ Kept t.R t.ws b k l := by
  rintro b k l ⟨w,q1,q2,q3,q4,q5,q6⟩
  obtain ⟨p1,p2⟩ := (b4 b w).1 q1
  rw [List.drop_zero] at p2
  exact ⟨p2,.mk k l w p1 q2 q3 q4 q5 q6⟩
 have hobj : ∀ b,b ∈ objs R' ↔ b ∈ objs s.R := by
  intro b
  constructor
  ·intro hb2
   obtain ⟨k,l,q⟩ := Kept.of b1 ((obj_iff b1 b).1 hb2)
   obtain ⟨q1,q2⟩ := hk2 _ _ _ q
   exact ((h.obj b).1 ((obj_iff h.a b).2 q2.obj6)).resolve_right q1
  ·intro hb2
   obtain ⟨k,l,q⟩ := Kept.of h.a ((obj_iff h.a b).1 ((h.obj b).2 (.inl hb2)))
   exact (obj_iff b1 b).2 (hk _ _ _ (fun w => h.new b w hb2) q).obj6
 have hso : ∀ b k l,Kept s.R s.ws b k l → b ∉ x := fun b k l hb2 w => h.new b w ((obj_iff hA b).2 hb2.obj6)
 have hcnt := h.cnt
 refine ⟨b1,fun b => ?_,fun b hb2 => (by cases hb2),List.nodup_nil,?_,fun b k l hb2 => hk b k l (hso b k l hb2) (h.kept b k l hb2),fun b i w hl => ?_,fun b i w hl => ?_,h.col,fun b hb2 => (by cases hb2),h.g,h.ov,h.ph,h.sp,h.cy,b2.trans h.len,h.cl⟩
 ·rw [show (Hst.R ⟨R',t.ws,t.C,t.G,t.ov,t.ph,t.sp,t.cy⟩) = R' from rfl,hobj b]
  exact ⟨.inl,fun q => q.elim id (fun q => by cases q)⟩
 ·show objCount R' = objCount s.R + 0
  omega
 ·have hl2 := h.ld b i w hl
  cases hl with
  | ok k l _ hK hi hx =>
   cases hl2 with
   | ok k2 l2 _ hK2 hi2 hx2 => exact .ok k2 l2 w (hk b k2 l2 (hso b k l hK) hK2) hi2 hx2
 ·have hl2 : b ∉ x ∧ Loaded t.R t.ws b i w 0 := by
   cases hl with
   | ok k l _ hK hi hx => exact ⟨(hk2 _ _ _ hK).1,.ok k l w (hk2 _ _ _ hK).2 hi hx⟩
  rcases h.dl b i w hl2.2 with ⟨q,_⟩ | q
  ·exact absurd q hl2.1
  ·exact .inr q
theorem Allot.more {s t : Hst} {l : List (Int × Int)} {x : List Int} {b : Bool} {N : Int} (hA : AOk s.R s.ws) (hN : N = s.R.length) (hc : (s.C.length : Int) = 32 * N) (h : Allot s l b x t) : More s t x ∧ (b = true → x.length = l.length) := by
 cases h with
 | ok _ _ h => obtain ⟨h1,h2⟩ := h.more hA hN hc; exact ⟨h1,fun _ => h2⟩
 | no i k n a e y u R R' ws hi h ha he hb =>
  obtain ⟨h1,h2⟩ := h.more hA hN hc
  exact ⟨Backs.more hA h1 hb,fun q => by cases q⟩
theorem toTheEnd_lx (R : List Rw) (ws C G : List Int) (N W ph sp cy : Int) (L D Q : List PV) (z : ByteArray) (ov : Bool) (h : HM R ws C G N W L D Q z) (o : Unit → Obj) (ho : IsPow o) (hg : Good N ⟨R,ws,C,G,ov,ph,sp,cy⟩) (hcy : cy ≤ 900000000) :
  CallF (fun _ => Tryz.prog) 98 [.ptr 0 (.lit 0)] [hpA 0 1 5 6 3 W ph sp cy,hpB 1 2 4 3 W,hpC 2 3 137 2 N,hpP 3 L,hpP 4 D,hpF 5 z ov,hpP 6 Q,(7,.fix 0 o)] 8 (fun r h n => ∃ (out : List Gn) (m : Int) (cells : List PV) (k : Nat) (Rh : List Rw) (wh Ch Gh : List Int) (ovh : Bool) (sp2 cy2 : Int) (Lh Dh Qh : List PV) (zh : ByteArray),r = .sl 8 40 4 (.lit 0) (.sym m) ∧ h = [hpA 0 1 5 6 3 W 0 sp2 cy2,hpB 1 2 4 3 W,hpC 2 3 137 2 N,hpP 3 Lh,hpP 4 Dh,hpF 5 zh ovh,hpP 6 Qh,(7,.fix 0 o),hpP 8 cells] ∧ n = 9 ∧ HM Rh wh Ch Gh N W Lh Dh Qh zh ∧ cells = gpv out ∧ m = out.length ∧ Many W ⟨R,ws,C,G,ov,ph,sp,cy⟩ k out ⟨Rh,wh,Ch,Gh,ovh,0,sp2,cy2⟩) := by
 have hW := h.w
 have hN2 := hg.n2
 have hl0 := hg.left_le
 refine callF_of_body tok Tryz.func98 (by kernel_rfl) rfl rfl rfl ?_; conv => cbv
 refine LoopF.mk (fun kk s => ∃ (m ph2 : Int) (out : List Gn) (cells : List PV) (k : Nat) (Rh : List Rw) (wh Ch Gh : List Int) (ovh : Bool) (sp2 cy2 : Int) (Lh Dh Qh : List PV) (zh : ByteArray),s = ⟨.ptr 0 (.lit 0) :: (undefs 1 ++ .p .nils :: .sl 8 40 4 (.lit 0) (.sym m) :: undefs 8),[hpA 0 1 5 6 3 W ph2 sp2 cy2,hpB 1 2 4 3 W,hpC 2 3 137 2 N,hpP 3 Lh,hpP 4 Dh,hpF 5 zh ovh,hpP 6 Qh,(7,.fix 0 o),hpP 8 cells],9⟩ ∧ HM Rh wh Ch Gh N W Lh Dh Qh zh ∧ cells = gpv out ∧ m = out.length ∧ Many W ⟨R,ws,C,G,ov,ph,sp,cy⟩ k out ⟨Rh,wh,Ch,Gh,ovh,ph2,sp2,cy2⟩ ∧ kk = (Hst.left N ⟨Rh,wh,Ch,Gh,ovh,ph2,sp2,cy2⟩).toNat) (Hst.left N ⟨R,ws,C,G,ov,ph,sp,cy⟩).toNat _
  (Re.at [(0,0),(1,1),(2,2),(3,3),(4,4),(5,5),(6,6),(7,7)] [8]) ⟨0,ph,[],[],0,R,ws,C,G,ov,sp,cy,L,D,Q,z,rfl,h,rfl,rfl,.zero,rfl⟩ ?_
 rintro kk s ⟨m,ph2,out,cells,k,Rh,wh,Ch,Gh,ovh,sp2,cy2,Lh,Dh,Qh,zh,rfl,hh,hcells,hml,hm,hkk⟩
 obtain ⟨hgh,hlh,hch,hoh⟩ := hm.good hW hg
 have hgs0 : 0 ≤ sp2 := hgh.p.1
 have hgs1 : sp2 ≤ N := hgh.p.2
 have hgy : 0 ≤ cy2 := hgh.y
 have hch : cy2 ≤ cy + k := hch
 have hlb := hgh.left0
 conv => cbv
 refine cfr (phase_lx Rh wh Ch Gh N W ph2 sp2 cy2 Lh Dh Qh zh ovh) [(0,0),(1,1),(2,2),(3,3),(4,4),(5,5),(6,6)] (fun r h' n' ⟨e1,e2,e3⟩ => ?_)
 subst e1 e2 e3
 conv => cbv
 refine Br.mk (fun q2 => ?_) (fun q2 => ?_)
 case refine_2 =>
  have q2 : ph2 = 0 := Classical.byContradiction q2
  subst q2
  conv => cbv
  refine RetF.mk [.sl 8 40 4 (.lit 0) (.sym m)] [hpA 0 1 5 6 3 W 0 sp2 cy2,hpB 1 2 4 3 W,hpC 2 3 137 2 N,hpP 3 Lh,hpP 4 Dh,hpF 5 zh ovh,hpP 6 Qh,(7,.fix 0 o),hpP 8 cells] 9 (Re.at [(0,0),(1,1),(2,2),(3,3),(4,4),(5,5),(6,6),(7,7),(8,8)] []) rfl ⟨out,m,cells,k,Rh,wh,Ch,Gh,ovh,sp2,cy2,Lh,Dh,Qh,zh,rfl,rfl,rfl,hh,hcells,hml,hm⟩
 have q2 : ¬ ph2 = 0 := q2
 conv => cbv
 refine cfr (step_lx Rh wh Ch Gh N W ph2 sp2 cy2 Lh Dh Qh zh ovh hh o ho ⟨hgs0,by omega⟩ ⟨hgy,by omega⟩) [(0,0),(1,1),(2,2),(3,3),(4,4),(5,5),(6,6),(7,7)] (fun r h' n' hrr => ?_)
 obtain ⟨o2,kx,ph',sp',cy',R2,w2,C2,G2,ov2,cells',Lx,Dx,Qx,z2,e1,e2,e3,h2,hcs2,hkx,hst⟩ := hrr
 subst e1 e2 e3
 have hm2 := Many.succ k out o2 ⟨Rh,wh,Ch,Gh,ovh,ph2,sp2,cy2⟩ ⟨R2,w2,C2,G2,ov2,ph',sp',cy'⟩ hm q2 hst
 obtain ⟨hgg,hlt,hcl,hol⟩ := hm2.good hW hg
 have hg2l := hgg.left0.1
 have hlt2 : Hst.left N ⟨R2,w2,C2,G2,ov2,ph',sp',cy'⟩ < Hst.left N ⟨Rh,wh,Ch,Gh,ovh,ph2,sp2,cy2⟩ := (Good.step (t := ⟨R2,w2,C2,G2,ov2,ph',sp',cy'⟩) hgh hW q2 hst).2.1
 conv => cbv
 have hcl2 : cells'.length = 4 * o2.length := by rw [hcs2,gpv_length]
 have hcl1 : cells.length = 4 * out.length := by rw [hcells,gpv_length]
 rw [List.length_append] at hol
 refine Need.mk (by show (cells'.length : Int) = kx * 4; omega) ?_
 conv => cbv
 refine Room.new ⟨by show (cells.length : Int) = m * 4; omega,by show (m + kx) * 48 ≤ 140737488355328; omega,by show m + kx ≤ 9223372036854775807; omega⟩ ?_
 conv => cbv
 refine Upd.mk fun c2 hc2 => ?_
 have hc2 : c2 = gpv (out ++ o2) := by rw [show c2 = cells ++ cells' from hc2,hcells,hcs2,gpv_app]
 conv => cbv
 refine Sum.mk fun m2 hm3 => ?_
 have hm4 : m2 = ((out ++ o2).length : Int) := by rw [show m2 = m + kx from hm3,hml,hkx,List.length_append]; rfl
 conv => cbv
 refine Again.mk (Hst.left N ⟨R2,w2,C2,G2,ov2,ph',sp',cy'⟩).toNat _ (by omega) (Re.at [(0,0),(1,1),(2,2),(3,3),(4,4),(5,5),(6,6),(7,7),(9,8)] []) ⟨m2,ph',out ++ o2,c2,k + 1,R2,w2,C2,G2,ov2,sp',cy',Lx,Dx,Qx,z2,rfl,h2,hc2,hm4,hm2,rfl⟩
theorem loadedF_det {R : List Rw} {ws : List Int} {a i x y : Int} (h : Loaded R ws a i x 0) (h' : Loaded R ws a i y 0) : x = y := by
 cases h with
 | ok _ _ _ _ _ h1 =>
  cases h' with
  | ok _ _ _ _ _ h2 => rw [h1] at h2; exact Option.some.inj h2
structure Run (R : List Rw) (ws wh K : List Int) (out : List Gn) : Prop where
 ke : ∀ a k l,Kept R ws a k l → Kept R wh a k l
 w0 : ∀ a j y,j ≠ 1 → Loaded R ws a j y 0 → Loaded R wh a j y 0
 w1 : ∀ a y,a ∉ K → Loaded R ws a 1 y 0 → Loaded R wh a 1 y 0
 wk : ∀ a ∈ K,Loaded R wh a 1 0 0 ∧ (∃ l,Kept R ws a 5 l) ∧ ∃ y,Loaded R ws a 1 y 0 ∧ y ≠ 0
 nd : K.Nodup
 ou : ∀ g ∈ out,g.2.2.2 = true → g.2.1 ∈ K ∧ ∃ l,Kept R ws g.2.1 5 l ∧ (g.2.2.1.length : Int) = l ∧ ∀ (i : Nat) (x : Int),g.2.2.1[i]? = some x → (i ≠ 1 → Loaded R ws g.2.1 i x 0) ∧ (i = 1 → x ≠ 0)
theorem Run.start (R : List Rw) (ws : List Int) : Run R ws ws [] [] :=
 ⟨fun _ _ _ h => h,fun _ _ _ _ h => h,fun _ _ _ h => h,fun a h => (by cases h),List.nodup_nil,fun g h => (by cases h)⟩
theorem Run.kb {R : List Rw} {ws wh K : List Int} {out : List Gn} (hA : AOk R ws) (h : Run R ws wh K out) {a k l : Int} (hk : Kept R wh a k l) : Kept R ws a k l := by
 obtain ⟨k',l',h2⟩ := Kept.of hA hk.obj6
 obtain ⟨e1,e2⟩ := (h.ke _ _ _ h2).det9 hk
 subst e1 e2; exact h2
theorem Run.lb {R : List Rw} {ws wh K : List Int} {out : List Gn} (hA : AOk R ws) (h : Run R ws wh K out) {a j y : Int} (hj : j ≠ 1) (hl : Loaded R wh a j y 0) : Loaded R ws a j y 0 := by
 have hl0 := hl
 cases hl with
 | ok k l _ hK hi hx =>
  have hK2 := h.kb hA hK
  have hb := hK2.bounds hA
  have hlen := hA.len
  obtain ⟨v,hv⟩ : ∃ v,ws[(a + 1 + j).toNat]? = some v := ⟨_,List.getElem?_eq_getElem (by omega)⟩
  have h2 : Loaded R ws a j v 0 := .ok k l v hK2 hi hv
  rw [loadedF_det hl0 (h.w0 a j v hj h2)]; exact h2
theorem Run.skip {R : List Rw} {ws wh K : List Int} {out o2 : List Gn} (h : Run R ws wh K out) (ho : ∀ g ∈ o2,g.2.2.2 = false) : Run R ws wh K (out ++ o2) :=
 ⟨h.ke,h.w0,h.w1,h.wk,h.nd,fun g hg ht => by
  rcases List.mem_append.1 hg with q | q
  ·exact h.ou g q ht
  ·rw [ho g q] at ht; cases ht⟩
theorem Run.keep {R : List Rw} {ws wh w2 K Y C : List Int} {out : List Gn} {a e : Int} (hA : AOk R ws) (hAh : AOk R wh) (h : Run R ws wh K out) (hY : Wrds R wh a Y) (hS : Stored R wh a 1 0 e w2) (hD : Due R wh C a) : Run R ws w2 (K ++ [a]) (out ++ [(5,a,Y,true)]) := by
 obtain ⟨⟨l,hk⟩,_,x,hx,hx0⟩ := hD
 have hnk : a ∉ K := fun q => hx0 (loadedF_det hx (h.wk a q).1)
 have hi : (0 : Int) ≤ 1 ∧ 1 < l := by
  cases hx with
  | ok k2 l2 _ hK2 hi2 _ => have := (hK2.det9 hk).2; omega
 obtain ⟨s1,s2⟩ := stored_to hAh hS
 obtain ⟨_,o1,o2⟩ := stored_own hAh hk hi hS
 have hk0 := h.kb hA hk
 have hx2 : Loaded R ws a 1 x 0 := by
  have hb := hk0.bounds hA
  have hlen := hA.len
  obtain ⟨v,hv⟩ : ∃ v,ws[(a + 1 + 1).toNat]? = some v := ⟨_,List.getElem?_eq_getElem (by omega)⟩
  have h2 : Loaded R ws a 1 v 0 := .ok 5 l v hk0 hi hv
  rw [loadedF_det hx (h.w1 a v hnk h2)]; exact h2
 refine ⟨fun b k m hb => s1 _ _ _ (h.ke b k m hb),fun b j y hj hl => ?_,fun b y hb hl => ?_,fun b hb => ?_,?_,fun g hg ht => ?_⟩
 ·by_cases e : b = a
  ·subst e; exact o2 j y hj (h.w0 _ j y hj hl)
  ·exact s2 b j y e (h.w0 b j y hj hl)
 ·rw [List.mem_append,List.mem_singleton] at hb
  exact s2 b 1 y (fun q => hb (.inr q)) (h.w1 b y (fun q => hb (.inl q)) hl)
 ·rcases List.mem_append.1 hb with q | q
  ·obtain ⟨q1,q2⟩ := h.wk b q
   refine ⟨s2 b 1 0 (fun w => hnk (by rw [← w]; exact q)) q1,q2⟩
  ·rw [List.mem_singleton.1 q]
   exact ⟨o1,⟨l,hk0⟩,x,hx2,hx0⟩
 ·exact List.nodup_append.2 ⟨h.nd,by simp,fun p hp q hq w => hnk (by rw [← List.mem_singleton.1 hq,← w]; exact hp)⟩
 ·rcases List.mem_append.1 hg with q | q
  ·obtain ⟨q1,q2⟩ := h.ou g q ht
   exact ⟨List.mem_append_left _ q1,q2⟩
  ·rw [List.mem_singleton.1 q]
   refine ⟨List.mem_append_right _ (List.mem_singleton.2 rfl),l,hk0,?_,fun i y hy => ⟨fun hne => ?_,fun he => ?_⟩⟩
   ·have h1 := hY.1
    show (Y.length : Int) = l
    generalize hq : (Y.length : Int) = m at h1
    cases h1 with
    | no hno => exact absurd hk.obj6 hno
    | is k2 _ hK2 => exact (hK2.det9 hk).2
   ·exact h.lb hA (by omega) (hY.2 i y hy)
   ·have h1 := hY.2 i y hy
    rw [he] at h1
    have := loadedF_det h1 hx
    omega
theorem swept_count {ws C : List Int} {R : List Rw} {p : Int} {n : Nat} {out : List Gn} {R' : List Rw} (hR : RowsOk R) (h : SweptTo ws C R p n out R') : RowsOk R' ∧ objCount R' + out.length = objCount R := by
 induction h with
 | zero => exact ⟨hR,rfl⟩
 | skip _ _ _ _ _ ih => exact ih
 | free i out R1 R2 k X h hw hk hX hf ih =>
  obtain ⟨i1,i2⟩ := ih
  cases hf with
  | ok q s e he hs hat =>
   obtain ⟨f1,_,f3,_⟩ := free_objs i1 he hs _ hat
   refine ⟨f1,?_⟩
   rw [List.length_append]
   show _ + (out.length + 1) = _
   omega
theorem gone_kept (out : List Gn) : out.length = (keptOf out).length + (goneOf out).length := by
 induction out with
 | nil => rfl
 | cons g out ih =>
  unfold keptOf goneOf at *
  cases hg : g.2.2.2 with
  | true => simp [hg] at *; omega
  | false => simp [hg] at *; omega
theorem Stepd.count {R R' : List Rw} {ws ws' C C' G G' : List Int} {ov ov' : Bool} {ph sp cy W p s y : Int} {out : List Gn} (hA : AOk R ws) (h : Stepd R ws C G ov ph sp cy W out R' ws' C' G' ov' p s y) : objCount R' + (goneOf out).length = objCount R := by
 cases h with
 | mark _ _ _ _ _ _ _ hp hm =>
  cases hm with
  | scan _ _ _ _ _ _ _ _ _ _ => rfl
  | keep _ _ _ _ _ _ _ _ _ _ _ _ _ => rfl
  | sweep _ _ _ _ => rfl
 | sweep _ _ hp hs =>
  have f := hs.facts hA
  have hg : goneOf out = spots out := by
   unfold goneOf
   rw [List.filter_eq_self.2 (fun g hg => by rw [(f.each g hg).2.2]; decide)]
  have h2 := (swept_count hA.rows hs).2
  rw [hg,spots,List.length_map]; exact h2
 | idle _ _ => rfl
def Prot (s : Hst) (x : Int) : Prop := x ∈ objs s.R ∧ (s.ph ≠ 0 → s.C[x.toNat]? ≠ some 0)
theorem Prot.many {N W : Int} {s t : Hst} {n : Nat} {out : List Gn} {x : Int} (hW : W = 32 * N) (hg : Good N s) (h : Prot s x) (hm : Many W s n out t) : Prot t x := by
 induction hm with
 | zero => exact h
 | succ n out o2 t u hm hp hs ih => exact stepd_keep (hm.good hW hg).1.a ih hs
theorem Prot.more {s t : Hst} {x : List Int} {b : Int} (h : Prot s b) (hm : More s t x) : Prot t b := by
 refine ⟨(hm.obj b).2 (.inl h.1),fun hp => ?_⟩
 rw [hm.col b h.1]
 exact h.2 (by rw [← hm.ph]; exact hp)
theorem Prot.new {s t : Hst} {x : List Int} {b : Int} (hm : More s t x) (hb : b ∈ x) : Prot t b := by
 refine ⟨(hm.obj b).2 (.inr hb),fun hp => ?_⟩
 rw [hm.coln b hb,if_neg (by rw [← hm.ph]; exact hp)]
 exact fun q => absurd (Option.some.inj q) (by decide)
structure Bgn (W : Int) (s : Hst) (A : List Int) (t : Hst) : Prop where
 r : t.R = s.R
 w : t.ws = s.ws
 p : t.ph = 1
 q : t.sp = s.sp
 y : t.cy = s.cy
 l : (t.C.length : Int) = W
 b : (t.C,t.G,t.ov) = begS s.R W A
theorem Bgn.good {N W : Int} {s t : Hst} {A : List Int} (hW : W = 32 * N) (hg : Good N s) (h : Bgn W s A t) : Good N t := by
 have k := hg.begin hW (by rw [← hW]; exact h.l) h.b
 obtain ⟨h1,h2,h3,h4,h5,h6,h7⟩ := h
 cases t
 dsimp only at h1 h2 h3 h4 h5
 subst h1 h2 h3 h4 h5
 exact k
theorem Bgn.cy1 {N W : Int} {s t : Hst} {A : List Int} (hW : W = 32 * N) (hg : Good N s) (h : Bgn W s A t) : Cy1 t.R t.ws t.C t.G t.ov A := by
 have hn := hg.n
 rw [h.r,h.w]
 exact Cy1.begin (W := W) hg.a (by omega) h.b
theorem Bgn.prot {N W : Int} {s t : Hst} {A : List Int} {a : Int} (hW : W = 32 * N) (hg : Good N s) (h : Bgn W s A t) (ha : a ∈ A) (ho : a ∈ objs s.R) : Prot t a :=
 ⟨by rw [h.r]; exact ho,fun _ => (h.cy1 hW hg).rt a ha (by rw [h.r]; exact ho)⟩
theorem Many.idle {W : Int} {s t : Hst} {n : Nat} {out : List Gn} (hp : s.ph = 0) (hm : Many W s n out t) : n = 0 ∧ out = [] ∧ t = s := by
 induction hm with
 | zero => exact ⟨rfl,rfl,rfl⟩
 | succ n out o2 t u _ hp2 _ ih => exact absurd (by rw [ih.2.2]; exact hp) hp2
theorem keptOf_app (a b : List Gn) : keptOf (a ++ b) = keptOf a ++ keptOf b := by unfold keptOf; rw [List.filter_append,List.map_append]
theorem goneOf_app (a b : List Gn) : goneOf (a ++ b) = goneOf a ++ goneOf b := by unfold goneOf; rw [List.filter_append,List.map_append]
theorem none_of {out : List Gn} (h1 : keptOf out = []) (h2 : goneOf out = []) : out = [] := by
 have := gone_kept out
 rw [h1,h2] at this
 exact List.eq_nil_of_length_eq_zero this
theorem Many.cyc {N W : Int} {s t : Hst} {n : Nat} {out : List Gn} {A : List Int} (hW : W = 32 * N) (hg : Good N s) (hp : s.ph = 1) (hb : Cy1 s.R s.ws s.C s.G s.ov A) (hm : Many W s n out t) : Cyc s.R t.R t.ws t.C t.G t.ov t.ph t.sp N A (keptOf out) (goneOf out) ∧ Run s.R s.ws t.ws (keptOf out) out ∧ objCount t.R + (goneOf out).length = objCount s.R := by
 induction hm with
 | zero => exact ⟨.inl ⟨hp,rfl,rfl,by rw [show A ++ keptOf [] = A from List.append_nil _]; exact hb⟩,Run.start _ _,rfl⟩
 | succ n out o2 t u hm hp2 hs ih =>
  obtain ⟨hcyc,hrun,hcnt⟩ := ih
  have hgt := (hm.good hW hg).1
  have hI := hgt.i.resolve_left hp2
  have hc := hgt.c
  have hn := hgt.n
  have hcc := hcyc.stepd hgt.a hn hW (by omega) hgt.p (fun hp => by rcases hI with ⟨k,_⟩ | ⟨_,_,_,k⟩ | ⟨k,_⟩ <;> omega) hs
  have hct := Stepd.count hgt.a hs
  obtain ⟨hcy2,_,hc3⟩ := hcc
  rw [keptOf_app,goneOf_app]
  refine ⟨hcy2,?_,by rw [List.length_append]; omega⟩
  rcases hc3 with ⟨hw,hk0⟩ | ⟨hp,a,Y,hout,hY,hSt,hD⟩
  ·rw [hw,hk0,List.append_nil]
   refine hrun.skip (fun g hg => ?_)
   cases hgb : g.2.2.2 with
   | false => rfl
   | true =>
    have : g.2.1 ∈ keptOf o2 := List.mem_map.2 ⟨g,List.mem_filter.2 ⟨hg,hgb⟩,rfl⟩
    rw [hk0] at this; cases this
  ·have hRR : t.R = s.R := by rcases hcyc with ⟨_,e,_⟩ | ⟨k,_⟩ | ⟨k,_⟩ <;> first | exact e | omega
   have hAh := hgt.a
   rw [hRR] at hY hSt hD hAh
   rw [hout]
   exact hrun.keep hg.a hAh hY hSt hD
theorem Many.count {N W : Int} {s t : Hst} {n : Nat} {out : List Gn} (hW : W = 32 * N) (hg : Good N s) (hm : Many W s n out t) : objCount t.R + (goneOf out).length = objCount s.R := by
 induction hm with
 | zero => rfl
 | succ n out o2 t u hm hp2 hs ih =>
  have hct := Stepd.count (hm.good hW hg).1.a hs
  rw [goneOf_app,List.length_append]
  omega
def Nf (R : List Rw) (ws : List Int) : Prop := ∀ a l x,Kept R ws a 5 l → Loaded R ws a 1 x 0 → x = 0
theorem loaded_to {R R' : List Rw} {ws ws' : List Int} (hk : ∀ b k l,Kept R' ws' b k l → Kept R ws b k l) (hw : ws' = ws) {b i x : Int} (h : Loaded R' ws' b i x 0) : Loaded R ws b i x 0 := by
 cases h with
 | ok k l _ hK hi hx => exact .ok k l x (hk _ _ _ hK) hi (by rw [← hw]; exact hx)
theorem kept_to {R R' : List Rw} {ws ws' : List Int} (hA : AOk R' ws') (hk : ∀ b k l,Kept R' ws' b k l → Kept R ws b k l) {b k l : Int} (hb : b ∈ objs R') (h : Kept R ws b k l) : Kept R' ws' b k l := by
 obtain ⟨k2,l2,h2⟩ := Kept.of hA ((obj_iff hA b).1 hb)
 obtain ⟨e1,e2⟩ := (hk _ _ _ h2).det9 h
 rw [← e1,← e2]; exact h2
theorem loaded_fw {R R' : List Rw} {ws ws' : List Int} (hA : AOk R' ws') (hk : ∀ b k l,Kept R' ws' b k l → Kept R ws b k l) (hw : ws' = ws) {b i x : Int} (hb : b ∈ objs R') (h : Loaded R ws b i x 0) : Loaded R' ws' b i x 0 := by
 cases h with
 | ok k l _ hK hi hx => exact .ok k l x (kept_to hA hk hb hK) hi (by rw [hw]; exact hx)
theorem stepd_nf {R R' : List Rw} {ws ws' C C' G G' : List Int} {ov ov' : Bool} {ph sp cy W p s y : Int} {out : List Gn} (hA : AOk R ws) (h : Nf R ws) (hs : Stepd R ws C G ov ph sp cy W out R' ws' C' G' ov' p s y) : ws' = ws ∧ keptOf out = [] := by
 cases hs with
 | mark _ _ _ _ _ _ _ hp hm =>
  cases hm with
  | scan _ _ _ _ _ _ _ _ _ _ => exact ⟨rfl,rfl⟩
  | keep a _ _ _ _ _ _ _ _ hf _ _ _ =>
   exfalso
   cases hf with
   | found i _ ha hd hn =>
    obtain ⟨⟨l,hk⟩,_,x,hx,hx0⟩ := hd
    exact hx0 (h a l x hk hx)
  | sweep _ _ _ _ => exact ⟨rfl,rfl⟩
 | sweep _ _ hp hs =>
  refine ⟨rfl,?_⟩
  have f := hs.facts hA
  unfold keptOf
  rw [List.filter_eq_nil_iff.2 (fun g hg => by rw [(f.each g hg).2.2]; decide)]
  rfl
 | idle _ _ => exact ⟨rfl,rfl⟩
structure Shr (s t : Hst) : Prop where
 w : t.ws = s.ws
 k : ∀ b k l,Kept t.R t.ws b k l → Kept s.R s.ws b k l
theorem Shr.refl (s : Hst) : Shr s s := ⟨rfl,fun _ _ _ h => h⟩
theorem Shr.trans {s t u : Hst} (h : Shr s t) (h2 : Shr t u) : Shr s u := ⟨h2.w.trans h.w,fun b k l q => h.k _ _ _ (h2.k _ _ _ q)⟩
theorem Shr.nf {s t : Hst} (h : Shr s t) (hn : Nf s.R s.ws) : Nf t.R t.ws := fun a l x h1 h2 => hn a l x (h.k _ _ _ h1) (loaded_to h.k h.w h2)
theorem Shr.obj {s t : Hst} (hA : AOk s.R s.ws) (hA2 : AOk t.R t.ws) (h : Shr s t) {b : Int} (hb : b ∈ objs t.R) : b ∈ objs s.R := by
 obtain ⟨k,l,hk⟩ := Kept.of hA2 ((obj_iff hA2 b).1 hb)
 exact (obj_iff hA b).2 (h.k _ _ _ hk).obj6
theorem Bgn.shr {W : Int} {s t : Hst} {A : List Int} (h : Bgn W s A t) : Shr s t := ⟨h.w,fun b k l q => by rw [h.r,h.w] at q; exact q⟩
theorem Many.nf {N W : Int} {s t : Hst} {n : Nat} {out : List Gn} (hW : W = 32 * N) (hg : Good N s) (h : Nf s.R s.ws) (hm : Many W s n out t) : Shr s t ∧ keptOf out = [] := by
 induction hm with
 | zero => exact ⟨Shr.refl _,rfl⟩
 | succ n out o2 t u hm hp hs ih =>
  have hA := (hm.good hW hg).1.a
  obtain ⟨h1,h2⟩ := stepd_nf hA (ih.1.nf h) hs
  refine ⟨ih.1.trans ⟨h1,stepd_kept hA hs⟩,?_⟩
  rw [keptOf_app,ih.2,h2]; rfl
theorem Many.whole {N W : Int} {s t u : Hst} {n : Nat} {out : List Gn} {A : List Int} (hW : W = 32 * N) (hg : Good N s) (hf : Nf s.R s.ws) (hb : Bgn W s A t) (hm : Many W t n out u) (hp : u.ph = 0) : ∀ x,x ∈ objs u.R ↔ Rch s.R s.ws A x := by
 have hgt := hb.good hW hg
 have hft := hb.shr.nf hf
 obtain ⟨hsh,hk0⟩ := hm.nf hW hgt hft
 obtain ⟨hc,_,_⟩ := hm.cyc hW hgt hb.p (hb.cy1 hW hg)
 rcases hc with ⟨k,_⟩ | ⟨k,_⟩ | ⟨_,h2⟩
 ·omega
 ·omega
 rw [hk0,List.append_nil,hb.r,hsh.w,hb.w] at h2
 intro x
 rw [h2.rest x,h2.go x]
 have hn := hg.n
 constructor
 ·rintro ⟨h3,h4⟩
  refine Classical.byContradiction fun k => h4 ⟨h3,(h2.done.iff x h3).2 k,?_⟩
  have := obj_bd hg.a h3
  omega
 ·intro hr
  exact ⟨hr.obj,fun q => (h2.done.iff x hr.obj).1 q.2.1 hr⟩
theorem rch_even {R : List Rw} {ws A : List Int} (h : ∀ a ∈ A,∀ i x,Loaded R ws a i x 0 → x % 2 = 0) {b : Int} (hb : Rch R ws A b) : b ∈ A := by
 induction hb with
 | root a ha _ => exact ha
 | next a b hr hl ih =>
  obtain ⟨i,x,hx,h1,_⟩ := hl
  have := h a ih i x hx
  omega
def Mono (c : Int) (R : List Rw) : Prop := ∀ e ∈ R,e.2 ≠ [] → e.1 = c
theorem Mono.new (c : Int) (n : Nat) : Mono c (List.replicate n (0,[])) := fun e he h => absurd (by rw [(List.mem_replicate.1 he).2]) h
theorem Mono.freet {c a e : Int} {R R' : List Rw} (h : Mono c R) (hf : Freet R a e R') : Mono c R' := by
 cases hf with
 | none _ => exact h
 | ok q s e he hs hat =>
  intro x hx hne
  rcases List.mem_or_eq_of_mem_set hx with k | k
  ·exact h x k hne
  ·have hec : e.1 = c := h e (List.mem_of_getElem? he) (fun w => by rw [w] at hs; cases hs)
   by_cases hc : List.count true (e.2.set s false) = 0
   ·rw [if_pos hc] at k
    exact absurd (by rw [k]) hne
   ·rw [if_neg hc] at k
    rw [k]; exact hec
theorem Mono.alloced {c i s : Int} {b : Bool} {R R' : List Rw} (h : Mono c R) (ha : Alloced R c i s b R') : Mono c R' := by
 cases ha with
 | no _ => exact h
 | old i s l _ hi _ _ _ =>
  intro x hx hne
  rcases List.mem_or_eq_of_mem_set hx with k | k
  ·exact h x k hne
  ·rw [k]
 | fresh i d _ _ hi _ =>
  intro x hx hne
  rcases List.mem_or_eq_of_mem_set hx with k | k
  ·exact h x k hne
  ·rw [k]
 | full _ _ _ => exact h
theorem Mono.alloct {k n a e : Int} {R R' : List Rw} {ws ws' : List Int} (h : Mono (ofN n) R) (ha : Alloct R ws k n a e R' ws') : Mono (ofN n) R' := by
 cases ha with
 | arg _ => exact h
 | room i s _ _ ha => exact h.alloced ha
 | ok i s _ _ _ ha _ _ => exact h.alloced ha
theorem Mono.swept {c p : Int} {n : Nat} {ws C : List Int} {R R' : List Rw} {out : List Gn} (h : Mono c R) (hs : SweptTo ws C R p n out R') : Mono c R' := by
 induction hs with
 | zero => exact h
 | skip _ _ _ _ _ ih => exact ih
 | free _ _ _ _ _ _ _ _ _ _ hf ih => exact ih.freet hf
theorem Mono.stepd {c : Int} {R R' : List Rw} {ws ws' C C' G G' : List Int} {ov ov' : Bool} {ph sp cy W p s y : Int} {out : List Gn} (h : Mono c R) (hs : Stepd R ws C G ov ph sp cy W out R' ws' C' G' ov' p s y) : Mono c R' := by
 cases hs with
 | mark _ _ _ _ _ _ _ _ _ => exact h
 | sweep _ _ _ hs => exact h.swept hs
 | idle _ _ => exact h
theorem Mono.many {c W : Int} {s t : Hst} {n : Nat} {out : List Gn} (h : Mono c s.R) (hm : Many W s n out t) : Mono c t.R := by
 induction hm with
 | zero => exact h
 | succ n out o2 t u hm hp hs ih => exact ih.stepd hs
theorem Mono.backs {c : Int} {R R' : List Rw} {x : List Int} {i : Nat} (h : Mono c R) (hb : Backs R x i R') : Mono c R' := by
 induction hb with
 | zero => exact h
 | next i a e R1 R2 hb ha hf ih => exact ih.freet hf
theorem sum_all {m : Nat} : ∀ {R : List Rw},(∀ e ∈ R,e.2.count true = m) → objCount R = m * R.length
 | [],_ => rfl
 | e :: R,h => by
  have h1 := sum_all (R := R) fun x hx => h x (List.mem_cons_of_mem _ hx)
  have h2 := h e (List.mem_cons_self ..)
  unfold objCount at h1 ⊢
  rw [List.map_cons,List.sum_cons,h1,h2,List.length_cons,Nat.mul_succ]
  omega
theorem sum_most {m : Nat} : ∀ {R : List Rw},(∀ e ∈ R,e.2.count true ≤ m) → objCount R ≤ m * R.length
 | [],_ => Nat.le_refl _
 | e :: R,h => by
  have h1 := sum_most (R := R) fun x hx => h x (List.mem_cons_of_mem _ hx)
  have h2 := h e (List.mem_cons_self ..)
  unfold objCount at h1 ⊢
  rw [List.map_cons,List.sum_cons,List.length_cons,Nat.mul_succ]
  omega
theorem Mono.le {c : Int} {R : List Rw} (hR : RowsOk R) (h : Mono c R) : objCount R ≤ slotsOf c * R.length := by
 refine sum_most fun e he => ?_
 by_cases hn : e.2 = []
 ·rw [hn]; exact Nat.zero_le _
 ·obtain ⟨_,h2,_⟩ := (hR e he).2 hn
  rw [← h e he hn,← h2]
  exact List.count_le_length
theorem Mono.full {c i s : Int} {R R' : List Rw} (hR : RowsOk R) (h : Mono c R) (hc : slotsOf c ≠ 0) (ha : Alloced R c i s false R') : objCount R = slotsOf c * R.length := by
 cases ha with
 | no h0 => exact absurd h0 hc
 | full _ h2 h3 =>
  refine sum_all fun e he => ?_
  obtain ⟨j,hj⟩ := List.getElem?_of_mem he
  have hn : e.2 ≠ [] := fun q => h3 j e.1 (by rw [hj,← q])
  have hec := h e he hn
  have hf := h2 j e.2 (by rw [hj,← hec])
  obtain ⟨_,h4,_⟩ := (hR e he).2 hn
  rw [← hec,← h4]
  refine List.count_eq_length.2 fun b hb => ?_
  cases b with
  | true => rfl
  | false => exact absurd hb hf
theorem Mono.err {R R' : List Rw} {ws ws' : List Int} {k n a e : Int} (hA : AOk R ws) (hm : Mono (ofN n) R) (hv : 0 ≤ n ∧ n ≤ 31 ∧ 1 ≤ k ∧ k ≤ 6) (h : Alloct R ws k n a e R' ws') : (e = 0 ∧ objCount R < slotsOf (ofN n) * R.length) ∨ (e ≠ 0 ∧ objCount R = slotsOf (ofN n) * R.length) := by
 have h' := h
 cases h with
 | arg q => exact absurd hv q
 | room i s _ _ ha => exact .inr ⟨by decide,hm.full hA.rows (ofN_slots n) ha⟩
 | ok i s _ _ _ ha _ _ =>
  refine .inl ⟨rfl,?_⟩
  have h1 := (alloct_ok hA h' rfl).2.2.1
  obtain ⟨a1,a2⟩ := hA.alloct h'
  have h2 := (hm.alloct h').le a1.rows
  rw [a2] at h2
  omega
def Val (p : Int × Int) : Prop := 0 ≤ p.2 ∧ p.2 ≤ 31 ∧ 1 ≤ p.1 ∧ p.1 ≤ 6
theorem Mono.alls {c : Int} {s t : Hst} {l : List (Int × Int)} {x : List Int} (h : Mono c s.R) (hl : ∀ p ∈ l,ofN p.2 = c) (ha : Alls s l x t) : Mono c t.R := by
 induction ha with
 | nil => exact h
 | snoc l x t k n a R ws ha hal ih =>
  have h1 := ih fun p hp => hl p (List.mem_append_left _ hp)
  have h2 : ofN n = c := hl (k,n) (List.mem_append_right _ (List.mem_singleton.2 rfl))
  subst h2
  exact h1.alloct hal
theorem Mono.allot {c N : Int} {s t : Hst} {l : List (Int × Int)} {x : List Int} {b : Bool} (hA : AOk s.R s.ws) (hN : N = s.R.length) (hc : (s.C.length : Int) = 32 * N) (hm : Mono c s.R) (hl : ∀ p ∈ l,Val p ∧ ofN p.2 = c) (h : Allot s l b x t) : Mono c t.R ∧ (b = true ↔ objCount s.R + l.length ≤ slotsOf c * s.R.length) := by
 cases h with
 | ok x t h =>
  have h1 := hm.alls (fun p hp => (hl p hp).2) h
  obtain ⟨h2,h3⟩ := h.more hA hN hc
  have h4 := h1.le h2.a.rows
  have h5 := h2.cnt
  have h6 := h2.len
  rw [h6] at h4
  exact ⟨h1,fun _ => by omega,fun _ => rfl⟩
 | no i k n a e y u R R' ws hi h ha he hb =>
  have hli := (List.getElem?_eq_some_iff.1 hi).1
  have h1 := hm.alls (fun p hp => (hl p (List.mem_of_mem_take hp)).2) h
  obtain ⟨h2,h3⟩ := h.more hA hN hc
  obtain ⟨v1,v2⟩ := hl (k,n) (List.mem_of_getElem? hi)
  have v2 : ofN n = c := v2
  subst v2
  have h5 := h2.cnt
  have h6 := h2.len
  rw [List.length_take] at h3
  refine ⟨h1.backs hb,⟨fun q => (by cases q),fun q => ?_⟩⟩
  exfalso
  rcases h1.err h2.a v1 ha with ⟨q1,_⟩ | ⟨_,q2⟩
  ·exact he q1
  ·rw [h6] at q2
   omega
theorem count_le {R R' : List Rw} (hR : RowsOk R) (hR' : RowsOk R') (h : ∀ x ∈ objs R,x ∈ objs R') : objCount R ≤ objCount R' := by
 have h1 : (objs R).Nodup := (objsTo_asc hR _).imp fun q => by omega
 have h2 := nodup_le h1 h
 have e1 : (objs R).length = objCount R := objs_length hR
 have e2 : (objs R').length = objCount R' := objs_length hR'
 omega
theorem nodup_cnt {l : List Int} {R : List Rw} (hR : RowsOk R) (hl : l.Nodup) (h : ∀ x ∈ l,x ∈ objs R) : l.length ≤ objCount R := by
 have h2 := nodup_le hl h
 have e1 : (objs R).length = objCount R := objs_length hR
 omega
def usedW (R : List Rw) : Int := (R.map fun e => (e.2.count true : Int) * wordsOf e.1).sum
def Asst (W : Int) (n : Nat) (s : Hst) (out : List Gn) (t : Hst) : Prop := ∃ k,k ≤ n ∧ Many W s k out t ∧ (k = n ∨ t.ph = 0)
def Pre (W st : Int) (A : List Int) (s t : Hst) : Prop := (s.ph = 0 ∧ st * W ≤ 100 * usedW s.R ∧ Bgn W s A t) ∨ (¬ (s.ph = 0 ∧ st * W ≤ 100 * usedW s.R) ∧ t = s)
inductive Tried (W : Int) (l : List (Int × Int)) (A : List Int) (s : Hst) : Bool → List Int → List Gn → Hst → Prop
 | quick (x : List Int) (t : Hst) (h : Allot s l true x t) : Tried W l A s true x [] t
 | forced (b : Bool) (x : List Int) (o1 o2 : List Gn) (k1 k2 : Nat) (t1 t2 t3 t4 t5 : Hst) (h1 : Allot s l false [] t1) (h2 : Many W t1 k1 o1 t2) (p2 : t2.ph = 0) (h3 : Bgn W t2 (A ++ keptOf o1) t3) (h4 : Many W t3 k2 o2 t4) (p4 : t4.ph = 0) (h5 : Allot t4 l b x t5) : Tried W l A s b x (o1 ++ o2) t5
inductive Alcd (W st : Int) (n : Nat) (l : List (Int × Int)) (A : List Int) (s : Hst) : List Int → List Gn → Int → Hst → Prop
 | ok (x : List Int) (o1 o2 : List Gn) (t0 t1 t : Hst) (h0 : Pre W st A s t0) (h1 : Tried W l A t0 true x o1 t1) (h2 : Asst W n t1 o2 t) : Alcd W st n l A s x (o1 ++ o2) 0 t
 | room (x : List Int) (o : List Gn) (t0 t : Hst) (h0 : Pre W st A s t0) (h1 : Tried W l A t0 false x o t) : Alcd W st n l A s [] o 9 t
theorem Allot.good {N : Int} {s t : Hst} {l : List (Int × Int)} {x : List Int} {b : Bool} (hg : Good N s) (h : Allot s l b x t) : Good N t ∧ More s t x ∧ (b = true → x.length = l.length) := by
 have k := h.more hg.a hg.n hg.c
 exact ⟨k.1.good hg,k.1,k.2⟩
theorem Many.cyb {N W : Int} {s t : Hst} {n : Nat} {out : List Gn} (hW : W = 32 * N) (hg : Good N s) (hm : Many W s n out t) : t.cy ≤ s.cy + 2177 ∧ out.length ≤ 69664 ∧ n ≤ 2177 := by
 obtain ⟨h1,h2,h3,h4⟩ := hm.good hW hg
 have h5 := hg.left_le
 have h6 := hg.n2
 have h7 := h1.left0.1
 exact ⟨by omega,by omega,by omega⟩
theorem Pre.good {N W st : Int} {A : List Int} {s t : Hst} (hW : W = 32 * N) (hg : Good N s) (h : Pre W st A s t) : Good N t ∧ t.cy = s.cy ∧ t.R = s.R ∧ t.ws = s.ws := by
 rcases h with ⟨_,_,h⟩ | ⟨_,rfl⟩
 ·exact ⟨h.good hW hg,h.y,h.r,h.w⟩
 ·exact ⟨hg,rfl,rfl,rfl⟩
theorem Tried.good {N W : Int} {l : List (Int × Int)} {A : List Int} {s t : Hst} {b : Bool} {x : List Int} {o : List Gn} (hW : W = 32 * N) (hg : Good N s) (h : Tried W l A s b x o t) : Good N t ∧ t.cy ≤ s.cy + 4354 ∧ (b = true → x.length = l.length) ∧ o.length ≤ 139328 := by
 cases h with
 | quick x t h =>
  obtain ⟨h1,h2,h3⟩ := h.good hg
  have h4 := h2.cy
  exact ⟨h1,by omega,h3,Nat.zero_le _⟩
 | forced b x o1 o2 k1 k2 t1 t2 t3 t4 t5 h1 h2 p2 h3 h4 p4 h5 =>
  obtain ⟨g1,m1,_⟩ := h1.good hg
  have g2 := (h2.good hW g1).1
  have g3 := h3.good hW g2
  have g4 := (h4.good hW g3).1
  obtain ⟨g5,m5,e5⟩ := h5.good g4
  have c1 := m1.cy
  have c2 := h2.cyb hW g1
  have c3 := h3.y
  have c4 := h4.cyb hW g3
  have c5 := m5.cy
  exact ⟨g5,by omega,e5,by rw [List.length_append]; omega⟩
theorem Asst.good {N W : Int} {n : Nat} {s t : Hst} {o : List Gn} (hW : W = 32 * N) (hg : Good N s) (h : Asst W n s o t) : Good N t ∧ t.cy ≤ s.cy + 2177 ∧ o.length ≤ 69664 := by
 obtain ⟨k,_,hm,_⟩ := h
 have c := hm.cyb hW hg
 exact ⟨(hm.good hW hg).1,c.1,c.2.1⟩
theorem Alcd.good {N W st : Int} {n : Nat} {l : List (Int × Int)} {A : List Int} {s t : Hst} {x : List Int} {o : List Gn} {e : Int} (hW : W = 32 * N) (hg : Good N s) (h : Alcd W st n l A s x o e t) : Good N t ∧ t.cy ≤ s.cy + 7000 ∧ (e = 0 ∧ x.length = l.length ∨ e = 9 ∧ x = []) ∧ o.length ≤ 1000000 := by
 cases h with
 | ok x o1 o2 t0 t1 t h0 h1 h2 =>
  obtain ⟨g0,c0,_⟩ := h0.good hW hg
  obtain ⟨g1,c1,e1,l1⟩ := h1.good hW g0
  obtain ⟨g2,c2,l2⟩ := h2.good hW g1
  exact ⟨g2,by omega,.inl ⟨rfl,e1 rfl⟩,by rw [List.length_append]; omega⟩
 | room x o t0 t h0 h1 =>
  obtain ⟨g0,c0,_⟩ := h0.good hW hg
  obtain ⟨g1,c1,_,l1⟩ := h1.good hW g0
  exact ⟨g1,by omega,.inr ⟨rfl,rfl⟩,by omega⟩
structure Goes (s t : Hst) (A x : List Int) : Prop where
 nf : Nf t.R t.ws
 pr : ∀ a ∈ A,Prot s a → Prot t a
 px : ∀ a ∈ x,Prot t a
 nw : ∀ a ∈ x,a ∈ A → ¬ Prot s a
 xn : x.Nodup
 kf : ∀ a ∈ A,Prot s a → ∀ k l,Kept s.R s.ws a k l → Kept t.R t.ws a k l
 lf : ∀ a ∈ A,Prot s a → ∀ i w,Loaded s.R s.ws a i w 0 → Loaded t.R t.ws a i w 0
 dl : ∀ b i w,Loaded t.R t.ws b i w 0 → (b ∈ x ∧ w = 0) ∨ Loaded s.R s.ws b i w 0
 dk : ∀ b k l,Kept t.R t.ws b k l → b ∈ x ∨ Kept s.R s.ws b k l
theorem Goes.refl {s : Hst} (A : List Int) (h : Nf s.R s.ws) : Goes s s A [] :=
 ⟨h,fun _ _ q => q,fun a q => (by cases q),fun a q => (by cases q),List.nodup_nil,fun _ _ _ _ _ q => q,fun _ _ _ _ _ q => q,fun _ _ _ q => .inr q,fun _ _ _ q => .inr q⟩
theorem Goes.shr {s t : Hst} {A : List Int} (hA2 : AOk t.R t.ws) (hn : Nf s.R s.ws) (h : Shr s t) (hp : ∀ a ∈ A,Prot s a → Prot t a) : Goes s t A [] :=
 ⟨h.nf hn,hp,fun a q => (by cases q),fun a q => (by cases q),List.nodup_nil,fun a ha hq k l hk => kept_to hA2 h.k (hp a ha hq).1 hk,fun a ha hq i w hl => loaded_fw hA2 h.k h.w (hp a ha hq).1 hl,fun b i w hl => .inr (loaded_to h.k h.w hl),fun b k l hk => .inr (h.k b k l hk)⟩
theorem Goes.many {N W : Int} {s t : Hst} {n : Nat} {out : List Gn} (A : List Int) (hW : W = 32 * N) (hg : Good N s) (hn : Nf s.R s.ws) (hm : Many W s n out t) : Goes s t A [] :=
 .shr (hm.good hW hg).1.a hn (hm.nf hW hg hn).1 (fun a _ h => h.many hW hg hm)
theorem Goes.bgn {N W : Int} {s t : Hst} {A B : List Int} (hW : W = 32 * N) (hg : Good N s) (hn : Nf s.R s.ws) (h : Bgn W s B t) (hB : ∀ a ∈ A,a ∈ B) : Goes s t A [] :=
 .shr (h.good hW hg).a hn h.shr (fun a ha hp => h.prot hW hg (hB a ha) hp.1)
theorem Goes.more {s t : Hst} {x : List Int} (A : List Int) (hA : AOk s.R s.ws) (hn : Nf s.R s.ws) (h : More s t x) : Goes s t A x := by
 refine ⟨fun a l w hk hl => ?_,fun a _ hp => hp.more h,fun a ha => .new h ha,fun a ha _ hp => h.new a ha hp.1,h.nd,fun a _ _ k l hk => h.kept a k l hk,fun a _ _ i w hl => h.ld a i w hl,h.dl,fun b k l hk => ?_⟩
 ·rcases h.dl a 1 w hl with ⟨_,q⟩ | q
  ·exact q
  ·have q0 := q
   cases q with
   | ok k2 l2 _ hK _ _ =>
    have e := ((h.kept a k2 l2 hK).det9 hk).1
    subst e
    exact hn a l2 w hK q0
 ·rcases (h.obj b).1 ((obj_iff h.a b).2 hk.obj6) with q | q
  ·obtain ⟨k2,l2,h2⟩ := Kept.of hA ((obj_iff hA b).1 q)
   obtain ⟨e1,e2⟩ := (h.kept b k2 l2 h2).det9 hk
   exact .inr (by rw [← e1,← e2]; exact h2)
  ·exact .inl q
theorem Goes.then {s t u : Hst} {A x : List Int} (h : Goes s t A []) (h2 : Goes t u A x) : Goes s u A x :=
 ⟨h2.nf,fun a ha hp => h2.pr a ha (h.pr a ha hp),h2.px,fun a ha hA hp => h2.nw a ha hA (h.pr a hA hp),h2.xn,fun a ha hp k l hk => h2.kf a ha (h.pr a ha hp) k l (h.kf a ha hp k l hk),fun a ha hp i w hl => h2.lf a ha (h.pr a ha hp) i w (h.lf a ha hp i w hl),fun b i w hl => (h2.dl b i w hl).imp id fun q => (h.dl b i w q).elim (fun k => by cases k.1) id,fun b k l hk => (h2.dk b k l hk).imp id fun q => (h.dk b k l q).elim (fun k => by cases k) id⟩
theorem Goes.past {s t u : Hst} {A x : List Int} (h : Goes s t A x) (h2 : Goes t u (A ++ x) []) : Goes s u A x :=
 ⟨h2.nf,fun a ha hp => h2.pr a (List.mem_append_left _ ha) (h.pr a ha hp),fun a ha => h2.pr a (List.mem_append_right _ ha) (h.px a ha),h.nw,h.xn,fun a ha hp k l hk => h2.kf a (List.mem_append_left _ ha) (h.pr a ha hp) k l (h.kf a ha hp k l hk),fun a ha hp i w hl => h2.lf a (List.mem_append_left _ ha) (h.pr a ha hp) i w (h.lf a ha hp i w hl),fun b i w hl => h.dl b i w ((h2.dl b i w hl).elim (fun k => by cases k.1) id),fun b k l hk => h.dk b k l ((h2.dk b k l hk).elim (fun k => by cases k) id)⟩
theorem Pre.goes {N W st : Int} {A : List Int} {s t : Hst} (hW : W = 32 * N) (hg : Good N s) (hn : Nf s.R s.ws) (h : Pre W st A s t) : Goes s t A [] := by
 rcases h with ⟨_,_,h⟩ | ⟨_,rfl⟩
 ·exact .bgn hW hg hn h (fun a ha => ha)
 ·exact .refl _ hn
structure Whole (N W : Int) (l : List (Int × Int)) (A : List Int) (s t2 t4 t : Hst) (b : Bool) (x : List Int) : Prop where
 g0 : ∃ t1,Allot s l false [] t1
 g2 : Good N t2
 a2 : Goes s t2 A []
 g4 : Good N t4
 a4 : Goes t2 t4 A []
 p4 : t4.ph = 0
 ob : ∀ y,y ∈ objs t4.R ↔ Rch t2.R t2.ws A y
 al : Allot t4 l b x t
 mo : ∀ c,(∀ p ∈ l,ofN p.2 = c) → Mono c s.R → Mono c t4.R
 kp : objCount t4.R ≤ objCount s.R
theorem Tried.whole {N W : Int} {l : List (Int × Int)} {A : List Int} {s t : Hst} {b : Bool} {x : List Int} {o : List Gn} (hW : W = 32 * N) (hg : Good N s) (hn : Nf s.R s.ws) (h : Tried W l A s b x o t) : keptOf o = [] ∧ ((b = true ∧ o = [] ∧ Allot s l true x t) ∨ ∃ t2 t4,Whole N W l A s t2 t4 t b x ∧ objCount t4.R + (goneOf o).length = objCount s.R) := by
 cases h with
 | quick x t h => exact ⟨rfl,.inl ⟨rfl,rfl,h⟩⟩
 | forced b x o1 o2 k1 k2 t1 t2 t3 t4 t5 h1 h2 p2 h3 h4 p4 h5 =>
  obtain ⟨g1,m1,_⟩ := h1.good hg
  have a1 := Goes.more A hg.a hn m1
  have g2 := (h2.good hW g1).1
  have a2 := Goes.many A hW g1 a1.nf h2
  have q1 := (h2.nf hW g1 a1.nf).2
  rw [q1,List.append_nil] at h3
  have g3 := h3.good hW g2
  have a3 := Goes.bgn hW g2 a2.nf h3 (fun a ha => ha)
  have g4 := (h4.good hW g3).1
  have a4 := Goes.many A hW g3 a3.nf h4
  have q2 := (h4.nf hW g3 a3.nf).2
  have c1 := m1.cnt
  have c2 := h2.count hW g1
  have c3 : objCount t3.R = objCount t2.R := by rw [h3.r]
  have c4 := h4.count hW g3
  have hmo : ∀ c,(∀ p ∈ l,ofN p.2 = c) → Mono c s.R → Mono c t1.R := by
   intro c hl hc
   cases h1 with
   | no i k n a e y u R R' ws hi h ha he hb => exact (hc.alls (fun p hp => hl p (List.mem_of_mem_take hp)) h).backs hb
  have hmo2 : ∀ c,(∀ p ∈ l,ofN p.2 = c) → Mono c s.R → Mono c t4.R := by
   intro c hl hc
   have k1 := (hmo c hl hc).many h2
   exact Mono.many (by rw [h3.r]; exact k1) h4
  have c0 : objCount t1.R = objCount s.R := m1.cnt
  have cx : objCount t4.R + (goneOf (o1 ++ o2)).length = objCount s.R := by rw [goneOf_app,List.length_append]; omega
  refine ⟨by rw [keptOf_app,q1,q2]; rfl,.inr ⟨t2,t4,⟨⟨t1,h1⟩,g2,a1.then a2,g4,a3.then a4,p4,h4.whole hW g2 a2.nf h3 p4,h5,hmo2,by omega⟩,cx⟩⟩
theorem Allot.goes {N : Int} {s t : Hst} {l : List (Int × Int)} {x : List Int} {b : Bool} (A : List Int) (hg : Good N s) (hn : Nf s.R s.ws) (h : Allot s l b x t) : Goes s t A x := by
 cases h with
 | ok x t h => exact .more A hg.a hn (h.more hg.a hg.n hg.c).1
 | no i k n a e y u R R' ws hi h ha he hb => exact .more A hg.a hn (Backs.more hg.a (h.more hg.a hg.n hg.c).1 hb)
theorem Tried.goes {N W : Int} {l : List (Int × Int)} {A : List Int} {s t : Hst} {b : Bool} {x : List Int} {o : List Gn} (hW : W = 32 * N) (hg : Good N s) (hn : Nf s.R s.ws) (h : Tried W l A s b x o t) : Goes s t A x := by
 rcases (h.whole hW hg hn).2 with ⟨_,_,k⟩ | ⟨t2,t4,k,_⟩
 ·exact k.goes A hg hn
 ·exact (k.a2.then k.a4).then (k.al.goes A k.g4 k.a4.nf)
theorem Asst.goes {N W : Int} {n : Nat} {s t : Hst} {o : List Gn} (A : List Int) (hW : W = 32 * N) (hg : Good N s) (hn : Nf s.R s.ws) (h : Asst W n s o t) : Goes s t A [] ∧ keptOf o = [] := by
 obtain ⟨k,_,hm,_⟩ := h
 exact ⟨.many A hW hg hn hm,(hm.nf hW hg hn).2⟩
theorem Alcd.goes {N W st : Int} {n : Nat} {l : List (Int × Int)} {A : List Int} {s t : Hst} {x : List Int} {o : List Gn} {e : Int} (hW : W = 32 * N) (hg : Good N s) (hn : Nf s.R s.ws) (h : Alcd W st n l A s x o e t) : Goes s t A x ∧ keptOf o = [] := by
 cases h with
 | ok x o1 o2 t0 t1 t h0 h1 h2 =>
  have g0 := (h0.good hW hg).1
  have a0 := h0.goes hW hg hn
  have g1 := (h1.good hW g0).1
  have a1 := h1.goes hW g0 a0.nf
  have k1 := (h1.whole hW g0 a0.nf).1
  have a2 := h2.goes (A ++ x) hW g1 a1.nf
  exact ⟨(a0.then a1).past a2.1,by rw [keptOf_app,k1,a2.2]; rfl⟩
 | room x o t0 t h0 h1 =>
  have g0 := (h0.good hW hg).1
  have a0 := h0.goes hW hg hn
  have a1 := h1.goes hW g0 a0.nf
  have k1 := (h1.whole hW g0 a0.nf).1
  have hx : x = [] := by
   cases h1 with
   | forced b x o1 o2 k1 k2 t1 t2 t3 t4 t5 h1 h2 p2 h3 h4 p4 h5 => cases h5; rfl
  subst hx
  exact ⟨a0.then a1,k1⟩
theorem gpv_cellsV (l : List Gn) : ∀ (i : Nat) (g : Gn),l[i]? = some g → (gpv l)[4 * i]? = some (.int .i64 (.sym g.1)) ∧ (gpv l)[4 * i + 1]? = some (.int .i64 (.sym g.2.1)) ∧ (gpv l)[4 * i + 2]? = some (.vsl (.sym (g.2.2.1.length : Int)) true (ipv g.2.2.1)) ∧ (gpv l)[4 * i + 3]? = some (.bool g.2.2.2) := by
 induction l with
 | nil => intro i g h; simp at h
 | cons x l ih =>
  intro i g h
  cases i with
  | zero => simp at h; subst h; exact ⟨rfl,rfl,rfl,rfl⟩
  | succ i =>
   have h2 := ih i g (by simpa using h)
   rw [show 4 * (i + 1) = (4 * i) + 4 by omega]
   exact h2
theorem keptOfV_take {out : List Gn} {j : Nat} {g : Gn} (h : out[j]? = some g) : keptOf (out.take (j + 1)) = keptOf (out.take j) ++ (if g.2.2.2 = true then [g.2.1] else []) := by
 unfold keptOf
 rw [List.take_add_one,h,List.filter_append,List.map_append]
 congr 1
 cases hb : g.2.2.2 <;> simp [hb]
theorem steps_lx (R : List Rw) (ws C G : List Int) (N W ph sp cy : Int) (L D Q : List PV) (z : ByteArray) (ov : Bool) (h : HM R ws C G N W L D Q z) (o : Unit → Obj) (ho : IsPow o) (hg : Good N ⟨R,ws,C,G,ov,ph,sp,cy⟩) (hcy : cy ≤ 900000000) (c : Int) (hc0 : 0 ≤ c) (hc1 : c ≤ 1000000000) :
  CallF (fun _ => Tryz.prog) 60 [.ptr 0 (.lit 0),i6 c] [hpA 0 1 5 6 3 W ph sp cy,hpB 1 2 4 3 W,hpC 2 3 137 2 N,hpP 3 L,hpP 4 D,hpF 5 z ov,hpP 6 Q,(7,.fix 0 o)] 8 (fun r h n => ∃ (out : List Gn) (m ph2 : Int) (cells : List PV) (Rh : List Rw) (wh Ch Gh : List Int) (ovh : Bool) (sp2 cy2 : Int) (Lh Dh Qh : List PV) (zh : ByteArray),r = .p (.vsl (.sym m) true cells) ∧ h = [hpA 0 1 5 6 3 W ph2 sp2 cy2,hpB 1 2 4 3 W,hpC 2 3 137 2 N,hpP 3 Lh,hpP 4 Dh,hpF 5 zh ovh,hpP 6 Qh,(7,.fix 0 o)] ∧ n = 8 ∧ HM Rh wh Ch Gh N W Lh Dh Qh zh ∧ cells = gpv out ∧ m = out.length ∧ Asst W c.toNat ⟨R,ws,C,G,ov,ph,sp,cy⟩ out ⟨Rh,wh,Ch,Gh,ovh,ph2,sp2,cy2⟩) := by
 have hW := h.w
 have hN2 := hg.n2
 have hl0 := hg.left_le
 refine callF_of_body tok Tryz.func60 (by kernel_rfl) rfl rfl rfl ?_; conv => cbv
 refine LoopF.mk (fun kk s => ∃ (i m ph2 : Int) (out : List Gn) (cells : List PV) (k : Nat) (Rh : List Rw) (wh Ch Gh : List Int) (ovh : Bool) (sp2 cy2 : Int) (Lh Dh Qh : List PV) (zh : ByteArray),s = ⟨.ptr 0 (.lit 0) :: (undefs 3 ++ .p .nils :: .sl 8 40 4 (.lit 0) (.sym m) :: .p (.int .i64 (.sym c)) :: .p (.int .i64 (.sym i)) :: undefs 10),[hpA 0 1 5 6 3 W ph2 sp2 cy2,hpB 1 2 4 3 W,hpC 2 3 137 2 N,hpP 3 Lh,hpP 4 Dh,hpF 5 zh ovh,hpP 6 Qh,(7,.fix 0 o),hpP 8 cells],9⟩ ∧ HM Rh wh Ch Gh N W Lh Dh Qh zh ∧ cells = gpv out ∧ m = out.length ∧ Many W ⟨R,ws,C,G,ov,ph,sp,cy⟩ k out ⟨Rh,wh,Ch,Gh,ovh,ph2,sp2,cy2⟩ ∧ 0 ≤ i ∧ i ≤ c ∧ k ≤ i.toNat ∧ (k = i.toNat ∨ ph2 = 0) ∧ kk = (c - i).toNat) c.toNat _
  (Re.at [(0,0),(1,1),(2,2),(3,3),(4,4),(5,5),(6,6),(7,7)] [8]) ⟨0,0,ph,[],[],0,R,ws,C,G,ov,sp,cy,L,D,Q,z,rfl,h,rfl,rfl,.zero,by omega,hc0,Nat.zero_le _,.inl rfl,by omega⟩ ?_
 rintro kk s ⟨i,m,ph2,out,cells,k,Rh,wh,Ch,Gh,ovh,sp2,cy2,Lh,Dh,Qh,zh,rfl,hh,hcells,hml,hm,hi0,hi1,hki,hkp,hkk⟩
 obtain ⟨hgh,hlh,hch,hoh⟩ := hm.good hW hg
 have hgs0 : 0 ≤ sp2 := hgh.p.1
 have hgs1 : sp2 ≤ N := hgh.p.2
 have hgy : 0 ≤ cy2 := hgh.y
 have hch : cy2 ≤ cy + k := hch
 have hlb := hgh.left0
 conv => cbv
 refine Br.mk (fun q => ?_) (fun q => ?_)
 case refine_2 =>
  have q : ¬ i < c := q
  conv => cbv
  refine RetF.mk [.p (.vsl (.sym m) true cells)] [hpA 0 1 5 6 3 W ph2 sp2 cy2,hpB 1 2 4 3 W,hpC 2 3 137 2 N,hpP 3 Lh,hpP 4 Dh,hpF 5 zh ovh,hpP 6 Qh,(7,.fix 0 o)] 8 (Re.at [(0,0),(1,1),(2,2),(3,3),(4,4),(5,5),(6,6),(7,7)] []) rfl ⟨out,m,ph2,cells,Rh,wh,Ch,Gh,ovh,sp2,cy2,Lh,Dh,Qh,zh,rfl,rfl,rfl,hh,hcells,hml,k,by omega,hm,by rw [show c.toNat = i.toNat by omega]; exact hkp⟩
 have q : i < c := q
 conv => cbv
 refine cfr (phase_lx Rh wh Ch Gh N W ph2 sp2 cy2 Lh Dh Qh zh ovh) [(0,0),(1,1),(2,2),(3,3),(4,4),(5,5),(6,6)] (fun r h' n' ⟨e1,e2,e3⟩ => ?_)
 subst e1 e2 e3
 conv => cbv
 refine Br.mk (fun q2 => ?_) (fun q2 => ?_)
 case refine_2 =>
  have q2 : ph2 = 0 := Classical.byContradiction q2
  conv => cbv
  refine Fit.mk (by show (-9223372036854775808 : Int) ≤ i + 1; omega) (by show i + 1 ≤ 9223372036854775807; omega) fun i2 hi2 => ?_
  have hi2 : i2 = i + 1 := hi2
  conv => cbv
  refine Again.mk (c - i2).toNat _ (by omega) (Re.at [(0,0),(1,1),(2,2),(3,3),(4,4),(5,5),(6,6),(7,7),(8,8)] []) ⟨i2,m,ph2,out,cells,k,Rh,wh,Ch,Gh,ovh,sp2,cy2,Lh,Dh,Qh,zh,rfl,hh,hcells,hml,hm,by omega,by omega,by omega,.inr q2,rfl⟩
 have q2 : ¬ ph2 = 0 := q2
 have hki2 : k = i.toNat := hkp.resolve_right q2
 conv => cbv
 refine cfr (step_lx Rh wh Ch Gh N W ph2 sp2 cy2 Lh Dh Qh zh ovh hh o ho ⟨hgs0,by omega⟩ ⟨hgy,by omega⟩) [(0,0),(1,1),(2,2),(3,3),(4,4),(5,5),(6,6),(7,7)] (fun r h' n' hrr => ?_)
 obtain ⟨o2,kx,ph',sp',cy',R2,w2,C2,G2,ov2,cells',Lx,Dx,Qx,z2,e1,e2,e3,h2,hcs2,hkx,hst⟩ := hrr
 subst e1 e2 e3
 have hm2 := Many.succ k out o2 ⟨Rh,wh,Ch,Gh,ovh,ph2,sp2,cy2⟩ ⟨R2,w2,C2,G2,ov2,ph',sp',cy'⟩ hm q2 hst
 obtain ⟨hgg,hlt,hcl,hol⟩ := hm2.good hW hg
 have hg2l := hgg.left0.1
 have hlt2 : Hst.left N ⟨R2,w2,C2,G2,ov2,ph',sp',cy'⟩ < Hst.left N ⟨Rh,wh,Ch,Gh,ovh,ph2,sp2,cy2⟩ := (Good.step (t := ⟨R2,w2,C2,G2,ov2,ph',sp',cy'⟩) hgh hW q2 hst).2.1
 conv => cbv
 have hcl2 : cells'.length = 4 * o2.length := by rw [hcs2,gpv_length]
 have hcl1 : cells.length = 4 * out.length := by rw [hcells,gpv_length]
 rw [List.length_append] at hol
 refine Need.mk (by show (cells'.length : Int) = kx * 4; omega) ?_
 conv => cbv
 refine Room.new ⟨by show (cells.length : Int) = m * 4; omega,by show (m + kx) * 48 ≤ 140737488355328; omega,by show m + kx ≤ 9223372036854775807; omega⟩ ?_
 conv => cbv
 refine Upd.mk fun c2 hc2 => ?_
 have hc2 : c2 = gpv (out ++ o2) := by rw [show c2 = cells ++ cells' from hc2,hcells,hcs2,gpv_app]
 conv => cbv
 refine Sum.mk fun m2 hm3 => ?_
 have hm4 : m2 = ((out ++ o2).length : Int) := by rw [show m2 = m + kx from hm3,hml,hkx,List.length_append]; rfl
 conv => cbv
 refine Fit.mk (by show (-9223372036854775808 : Int) ≤ i + 1; omega) (by show i + 1 ≤ 9223372036854775807; omega) fun i2 hi2 => ?_
 have hi2 : i2 = i + 1 := hi2
 conv => cbv
 refine Again.mk (c - i2).toNat _ (by omega) (Re.at [(0,0),(1,1),(2,2),(3,3),(4,4),(5,5),(6,6),(7,7),(9,8)] []) ⟨i2,m2,ph',out ++ o2,c2,k + 1,R2,w2,C2,G2,ov2,sp',cy',Lx,Dx,Qx,z2,rfl,h2,hc2,hm4,hm2,by omega,by omega,by omega,.inl (by omega),rfl⟩
theorem look21_lx (k a q : Int) (ws : List PV) (b : Bool) : CallF (fun _ => Tryz.prog) 124 [.agg [i6 k,i6 a,.p (.vsl (.sym q) true ws),.p (.bool b)]] [] 0 (fun r h n => (b = true ∧ r = .iface 161 (.agg [i6 a]) ∨ b = false ∧ r = .iface 165 (.agg [])) ∧ h = [] ∧ n = 0) := by
 cases b with
 | false =>
  refine callF_of_body tok Tryz.func124 (by kernel_rfl) rfl rfl rfl ?_; conv => cbv
  refine RetF.mk [.iface 165 (.agg [])] [] 0 (Re.at [] []) rfl ⟨.inr ⟨rfl,rfl⟩,rfl,rfl⟩
 | true =>
  refine callF_of_body tok Tryz.func124 (by kernel_rfl) rfl rfl rfl ?_; conv => cbv
  refine RetF.mk [.iface 161 (.agg [i6 a])] [] 0 (Re.at [] []) rfl ⟨.inl ⟨rfl,rfl⟩,rfl,rfl⟩
theorem keptOf_lx (out : List Gn) (k : Int) (cells : List PV) (hk : k = out.length) (hcs : cells = gpv out) (hl : out.length ≤ 1000000) : CallF (fun _ => Tryz.prog) 100 [.p (.vsl (.sym k) true cells)] [] 0 (fun r h n => ∃ (m : Int) (T : List PV),r = .sl 0 3 1 (.lit 0) (.sym m) ∧ h = [hpP 0 T] ∧ n = 1 ∧ T = ipv (keptOf out) ∧ m = (keptOf out).length) := by
 have hcl : cells.length = 4 * out.length := by rw [hcs,gpv_length]
 refine callF_of_body tok Tryz.func100 (by kernel_rfl) rfl rfl rfl ?_; conv => cbv
 refine LoopF.mk (fun kk s => ∃ (i m : Int) (T : List PV),s = ⟨undefs 2 ++ .p .nils :: .sl 0 3 1 (.lit 0) (.sym m) :: (undefs 4 ++ .p (.vsl (.sym k) true cells) :: .p (.int .i64 (.sym k)) :: .p (.int .i64 (.sym i)) :: undefs 17),[hpP 0 T],1⟩ ∧ 0 ≤ i ∧ i ≤ k ∧ T = ipv (keptOf (out.take i.toNat)) ∧ m = (keptOf (out.take i.toNat)).length ∧ kk = (k - i).toNat) k.toNat _
  (Re.at [] [0]) ⟨0,0,[],rfl,by omega,by omega,rfl,rfl,by omega⟩ ?_
 rintro kk s ⟨i,m,T,rfl,hi0,hi1,hT,hm,hkk⟩
 have hTl : T.length = (keptOf (out.take i.toNat)).length := by rw [hT,ipv_length]
 have hkl : (keptOf (out.take i.toNat)).length ≤ out.length := by
  have h1 := gone_kept (out.take i.toNat)
  rw [List.length_take] at h1
  omega
 conv => cbv
 refine Br.mk (fun q => ?_) (fun q => ?_)
 case refine_2 =>
  have q : ¬ i < k := q
  rw [List.take_of_length_le (by omega : out.length ≤ i.toNat)] at hT hm
  conv => cbv
  refine RetF.mk [.sl 0 3 1 (.lit 0) (.sym m)] [hpP 0 T] 1 (Re.at [(0,0)] []) rfl ⟨m,T,rfl,rfl,rfl,hT,hm⟩
 have q : i < k := q
 obtain ⟨⟨g1,g2,g3,g4⟩,hg⟩ : ∃ p,out[i.toNat]? = some p := ⟨_,List.getElem?_eq_getElem (by omega)⟩
 have hcc := gpv_cellsV out i.toNat _ hg
 rw [← hcs] at hcc
 dsimp only at hcc
 obtain ⟨q3,hq3⟩ : ∃ q : Int,q = ((g3.length : Nat) : Int) := ⟨_,rfl⟩
 obtain ⟨c3,hc3⟩ : ∃ c,c = ipv g3 := ⟨_,rfl⟩
 rw [← hq3,← hc3] at hcc
 conv => cbv
 refine Need.mk ⟨by show 0 ≤ i; omega,by show i < k; omega⟩ ?_
 conv => cbv
 refine Sum.mk fun w hw => ?_
 have hw : w = i * 4 := hw
 conv => cbv
 refine Cell.at (w + 0) _ hcc.1 rfl (by omega) ?_
 conv => cbv
 refine Cell.at (w + 1) _ hcc.2.1 rfl (by omega) ?_
 conv => cbv
 refine Cell.at (w + 2) _ hcc.2.2.1 rfl (by omega) ?_
 conv => cbv
 refine Cell.at (w + 3) _ hcc.2.2.2 rfl (by omega) ?_
 conv => cbv
 refine cfr (look21_lx g1 g2 q3 c3 g4) [] (fun r h' n' hrr => ?_)
 obtain ⟨hres,e2,e3⟩ := hrr
 subst e2 e3
 have htk := keptOfV_take hg
 dsimp only at htk
 have hi2n : (i + 1).toNat = i.toNat + 1 := by omega
 rcases hres with ⟨hb4,e1⟩ | ⟨hb4,e1⟩
 ·subst hb4 e1
  rw [if_pos rfl] at htk
  conv => cbv
  refine Room.new rfl ?_
  conv => cbv
  refine Room.new ⟨by show (T.length : Int) = m * 1; omega,by show (m + 1) * 8 ≤ 140737488355328; omega,by show m + 1 ≤ 9223372036854775807; omega⟩ ?_
  conv => cbv
  refine Upd.mk fun T2 hT2 => ?_
  have hT2 : T2 = ipv (keptOf (out.take (i.toNat + 1))) := by rw [show T2 = T ++ [.int .i64 (.sym g2)] from hT2,htk,← ipv_app,← hT]; rfl
  conv => cbv
  refine Sum.mk fun m2 hm2 => ?_
  have hm2 : m2 = (keptOf (out.take (i.toNat + 1))).length := by rw [show m2 = m + 1 from hm2,hm,htk,List.length_append]; rfl
  conv => cbv
  refine Fit.mk (by show (-9223372036854775808 : Int) ≤ i + 1; omega) (by show i + 1 ≤ 9223372036854775807; omega) fun i2 hi2 => ?_
  have hi2 : i2 = i + 1 := hi2
  conv => cbv
  refine Again.mk (k - i2).toNat _ (by omega) (Re.at [(4,0)] []) ⟨i2,m2,T2,rfl,by omega,by omega,by rw [show i2.toNat = i.toNat + 1 by omega]; exact hT2,by rw [show i2.toNat = i.toNat + 1 by omega]; exact hm2,rfl⟩
 ·subst hb4 e1
  rw [if_neg (by decide),List.append_nil] at htk
  conv => cbv
  refine Fit.mk (by show (-9223372036854775808 : Int) ≤ i + 1; omega) (by show i + 1 ≤ 9223372036854775807; omega) fun i2 hi2 => ?_
  have hi2 : i2 = i + 1 := hi2
  conv => cbv
  refine Again.mk (k - i2).toNat _ (by omega) (Re.at [(0,0)] []) ⟨i2,m,T,rfl,by omega,by omega,by rw [show i2.toNat = i.toNat + 1 by omega,htk]; exact hT,by rw [show i2.toNat = i.toNat + 1 by omega,htk]; exact hm,rfl⟩
theorem Re.cut {n0 : Nat} {s s' : LS} (b : Nat) (sy : Bool) (T T' : List PV) (hb : hget s.h b = some (.pure sy T)) (hp : T' <+: T) (h : Re n0 { s with h := hset s.h b (.pure true T') } s') : Re n0 s s' := by
 obtain ⟨h⟩ := h
 refine ⟨fun c0 w0 c a w hN he hs => h c0 w0 c a w hN he ⟨hs.tl,hs.tr,hs.df,⟨fun b' B hB => ?_,hs.hr.fresh,hs.hr.inj,hs.hr.noX,hs.hr.ltX,hs.hr.lt⟩,hs.nn⟩⟩
 have hB : hget (hset s.h b (.pure true T')) b' = some B := hB
 rw [hget_set hb] at hB
 by_cases e : b' = b
 ·rw [if_pos e] at hB
  cases hB
  rw [e]
  obtain ⟨m,hm,hBR⟩ := hs.hr.live b _ hb
  refine ⟨m,hm,?_⟩
  obtain ⟨T2,hT2⟩ := hp
  cases m with
  | none =>
   have hBR : T = [] := hBR
   rw [hBR] at hT2
   exact (List.append_eq_nil_iff.1 hT2).1
  | some r =>
   obtain ⟨cur,ty,h1,h2,h3⟩ := hBR
   have hl : T'.length ≤ T.length := by rw [← hT2,List.length_append]; omega
   exact ⟨cur,ty,h1,by omega,fun j u hu => h3 j u (by rw [← hT2,List.getElem?_append_left (List.getElem?_eq_some_iff.1 hu).1]; exact hu)⟩
 ·rw [if_neg e] at hB
  exact hs.hr.live b' B hB
def ptrs : List Int → List Int
 | [] => []
 | w :: X => if w % 2 = 1 then (w - 1) / 2 :: ptrs X else ptrs X
theorem ptrs_app (X Y : List Int) : ptrs (X ++ Y) = ptrs X ++ ptrs Y := by
 induction X with
 | nil => rfl
 | cons w X ih =>
  show (if w % 2 = 1 then (w - 1) / 2 :: ptrs (X ++ Y) else ptrs (X ++ Y)) = (if w % 2 = 1 then (w - 1) / 2 :: ptrs X else ptrs X) ++ ptrs Y
  rw [ih]
  split <;> rfl
theorem ptrs_len (X : List Int) : (ptrs X).length ≤ X.length := by
 induction X with
 | nil => exact Nat.le_refl _
 | cons w X ih =>
  unfold ptrs
  split
  ·simp only [List.length_cons]; omega
  ·simp only [List.length_cons]; omega
theorem ptrs_mem {X : List Int} {b : Int} : b ∈ ptrs X ↔ ∃ w ∈ X,w % 2 = 1 ∧ b = (w - 1) / 2 := by
 induction X with
 | nil => exact ⟨fun h => (by cases h),fun ⟨w,h,_⟩ => (by cases h)⟩
 | cons w X ih =>
  unfold ptrs
  split
  ·rename_i hw
   rw [List.mem_cons,ih]
   constructor
   ·rintro (h | ⟨v,h1,h2⟩)
    ·exact ⟨w,List.mem_cons_self,hw,h⟩
    ·exact ⟨v,List.mem_cons_of_mem _ h1,h2⟩
   ·rintro ⟨v,h1,h2,h3⟩
    rcases List.mem_cons.1 h1 with h | h
    ·subst h; exact .inl h3
    ·exact .inr ⟨v,h,h2,h3⟩
  ·rename_i hw
   rw [ih]
   constructor
   ·rintro ⟨v,h1,h2⟩; exact ⟨v,List.mem_cons_of_mem _ h1,h2⟩
   ·rintro ⟨v,h1,h2,h3⟩
    rcases List.mem_cons.1 h1 with h | h
    ·subst h; exact absurd h2 hw
    ·exact ⟨v,h,h2,h3⟩
theorem ptrs_take {X : List Int} {i : Nat} {w : Int} (h : X[i]? = some w) : ptrs (X.take (i + 1)) = ptrs (X.take i) ++ (if w % 2 = 1 then [(w - 1) / 2] else []) := by
 rw [List.take_add_one,h,ptrs_app]; rfl
def Brk (R : List Rw) (ws : List Int) (a : Int) : Prop := ∃ i w : Int,Loaded R ws a i w 0 ∧ w % 2 = 1 ∧ ¬ (w - 1) / 2 ∈ objs R
theorem loaded_okL {R : List Rw} {ws : List Int} {a k l i x e : Int} (h : Kept R ws a k l) (hi : 0 ≤ i ∧ i < l) (hv : Loaded R ws a i x e) : e = 0 ∧ ws[(a + 1 + i).toNat]? = some x := by
 cases hv with
 | none hn => obtain ⟨w,hw,_⟩ := h; exact absurd (isObj_iff.2 ⟨w,hw⟩) hn
 | arg k' l' h' hi' => rw [(h.det9 h').2] at hi; exact absurd hi hi'
 | ok k' l' _ h' hi' hx => exact ⟨rfl,hx⟩
end Go.Proofs.YtpbhcdbkmmjimaaGreatDoor
namespace Go.Proofs
open Go.Shelf
set_option maxHeartbeats 32000000
def Tryz.laysNm215_ren : Go.Shelf.Ren := ⟨fun | 15 => 99 | n => n,fun | 22 => 34 | 3 => 3 | 4 => 4 | n => n,fun | n => n⟩
theorem Tryz.laysNm215 : Go.Proofs.Lays2.n15 Tryz.prog Tryz.laysNm215_ren := {
 mixed := by kernel_rfl
 f15 := Tryz.func99.trans (congrArg some (by kernel_rfl))
 t3 := Tryz.underlying3
 a3 := Tryz.isAgg3
 z3 := Tryz.sizeOf3
 v3 := Tryz.zeroValue3
 t4 := Tryz.underlying4
 a4 := Tryz.isAgg4
 z4 := Tryz.sizeOf4
 v4 := Tryz.zeroValue4
 t22 := Tryz.underlying34
 a22 := Tryz.isAgg34
 z22 := Tryz.sizeOf34
 v22 := Tryz.zeroValue34
 i3 := by kernel_rfl }
open Go.RowKit Go.Lib in
theorem Tryz.slices_Clone_int (b off n c : Nat) (zs : List Int) (w : World) (hz : n ≤ zs.length) (hbig : n * 8 ≤ 140737488355328) (hc : ∀ j,j < zs.length → w.cell? ⟨b,off + j,none⟩ = some (.int .i64 (zs.getD j 0))) :
  Calls Tryz.prog 99 #[.slice (some ⟨b,off,none⟩) n c] w fun e w' => ∃ v',e = .returned v' ∧ w'.ownsRow w.heap.size 3 1 v' n ((zs.take n).map (Value.int .i64)) ∧ v' ≠ .slice none 0 0 ∧ Below w.heap.size w w' := Any.slices_Clone_int Tryz.laysNm215 b off n c zs w hz hbig hc
open Go.RowKit Go.Lib in
theorem Tryz.slices_Clone_int_nil (n c : Nat) (w : World) :
  Calls Tryz.prog 99 #[.slice none n c] w fun e w' => e = .returned (.slice none 0 0) ∧ w' = w := Any.slices_Clone_int_nil Tryz.laysNm215 n c w
open Go.RowKit Go.Lib in
theorem Tryz.slices_Clone_int_zero (a : Addr) (c : Nat) (w : World) :
  Calls Tryz.prog 99 #[.slice (some a) 0 c] w fun e w' => ∃ v',e = .returned v' ∧ w'.ownsRow w.heap.size 3 1 v' 0 [] ∧ v' ≠ .slice none 0 0 ∧ Below w.heap.size w w' := Any.slices_Clone_int_zero Tryz.laysNm215 a c w
end Go.Proofs
namespace Go.Proofs.YtpbhcdbkmmjimaaGreatDoor
open Go Go.LX
set_option maxRecDepth 100000
set_option linter.unusedVariables false
set_option linter.unusedSimpArgs false
set_option maxHeartbeats 32000000
open Go.RowKit in
theorem HR.owned {c : Ctx} {w w' : World} {h : LH} (hr : HR c w h) (hb : Below w.heap.size w w') (g : Nat) (hg : w.heap.size ≤ g) (hg2 : g < w'.heap.size) {B : LB} (hB : BR (c.grow (some g)) w' B (some g)) : Ext c w (c.grow (some g)) w' ∧ HR (c.grow (some g)) w' ((c.N,B) :: h) := by
 have he : Ext c w (c.grow (some g)) w' := by
  refine ⟨hb.os,hb.tape,hb.output,hb.size,rfl,Nat.le_succ _,fun b hb => .inl (grow_old c _ (Nat.ne_of_lt hb)),fun b r hb h => ?_,fun r hr _ => hb.block r hr,fun b r hbn h => ?_⟩
  ·by_cases e : b = c.N
   ·subst e; rw [grow_new] at h; cases h; exact .inl hg
   ·rw [grow_old c _ e,hr.fresh b hb] at h; cases h
  ·rw [grow_old c _ (Nat.ne_of_lt hbn)] at h
   simp only [World.shape?]
   rw [hb.block r (hr.lt b r h)]
 refine ⟨he,hr.step he (.inr rfl) (fun b hb => ?_) (fun b => ?_) (fun b C hb2 => ?_)⟩
 ·have hb' : c.N + 1 ≤ b := hb
  rw [grow_old c _ (by omega)]; exact hr.fresh b (by omega)
 ·by_cases e : b = c.N
  ·exact .inr (.inr ⟨e,.inr ⟨g,by rw [e,grow_new],hg,hg2⟩⟩)
  ·exact .inl (grow_old c _ e)
 ·rw [hget_cons] at hb2
  by_cases e : c.N = b
  ·rw [if_pos e] at hb2; cases hb2
   subst e
   exact .inr ⟨_,grow_new c _,hB⟩
  ·rw [if_neg e] at hb2
   exact .inl ⟨hb2,grow_old c _ (fun h => e h.symm),fun r hrr => hb.block r (hr.lt b r hrr)⟩
open Go.RowKit in
theorem clone_own {c : Ctx} {w w' : World} {A : List Int} {k : Int} {v : Value} {n : Nat} (hr : HR c w []) (hN : c.N = 0) (hk : k = A.length) (hn : n = A.length) (ho : w'.ownsRow w.heap.size 3 1 v n (A.map (Value.int .i64))) (hne : v ≠ .slice none 0 0) (hb : Below w.heap.size w w') :
  ∃ (c' : Ctx) (r : LV) (v2 : Value) (h' : LH) (n' : Nat),Ending.returned v = .returned v2 ∧ (∃ T : List PV,r = .sl 0 3 1 (.lit 0) (.sym k) ∧ h' = [hpP 0 T] ∧ n' = 1 ∧ T = ipv A) ∧ HR c' w' h' ∧ c'.N = n' ∧ LR c' w' r v2 ∧ Ext c w c' w' := by
 obtain ⟨hl,⟨h1,_⟩ | ⟨g,cap,cur,rfl,hg,hgh,hnc,hcm,hcs,hct⟩⟩ := ho
 ·exact absurd h1 hne
 have hgs : g < w'.heap.size := by
  have := (Array.getElem?_eq_some_iff.1 hgh).1
  exact this
 have hB : BR (c.grow (some g)) w' (.pure true (ipv A)) (some g) := by
  refine ⟨_,_,hgh,by rw [ipv_length,hcs]; omega,fun j u hu => ?_⟩
  have hj : j < A.length := by
   have := (List.getElem?_eq_some_iff.1 hu).1
   rwa [ipv_length] at this
  have hu2 := ipv_get (List.getElem?_eq_getElem hj)
  rw [hu2] at hu
  cases hu
  have hc : cur.toList[j]? = some (.int .i64 A[j]) := by
   have h2 : (cur.toList.take (n * 1))[j]? = some (.int .i64 A[j]) := by rw [hct,List.getElem?_map,List.getElem?_eq_getElem hj]; rfl
   rw [List.getElem?_take_of_lt (by omega)] at h2
   exact h2
  rw [Array.getD_eq_getD_getElem?,← Array.getElem?_toList,hc]
  exact .int _ _ _ rfl
 obtain ⟨he,hh⟩ := HR.owned hr hb g hg hgs hB
 rw [hN] at hh
 refine ⟨c.grow (some g),.sl 0 3 1 (.lit 0) (.sym k),_,[hpP 0 (ipv A)],1,rfl,⟨ipv A,rfl,rfl,rfl,rfl⟩,hh,by show c.N + 1 = 1; omega,?_,he⟩
 have hm : (c.grow (some g)).m 0 = some (some g) := by have := grow_new c (some g); rwa [hN] at this
 refine .sl _ _ _ _ _ g 0 n cap cur.size hm rfl ?_ hnc hcm ?_ (by omega)
 ·simp only [I.val]; omega
 ·simp only [World.shape?,hgh]
theorem addr_add {a : Addr} (h : a.spot = none) (j : Nat) : a.add j = ⟨a.block,a.off + j,none⟩ := by
 cases a; cases h
 unfold Addr.add
 by_cases e : j = 0
 ·subst e; rfl
 ·rw [if_neg e]
theorem ints_cells {M : Nat → Prop} {w : World} {A : List Int} {f : Nat → Value} (hrel : ∀ (j : Nat) (u : PV),(ipv A)[j]? = some u → PR M w u (f j)) {j : Nat} (hj : j < A.length) : f j = .int .i64 (A.getD j 0) := by
 have h1 := hrel j _ (ipv_get (List.getElem?_eq_getElem hj))
 rw [List.getD_eq_getElem?_getD,List.getElem?_eq_getElem hj]
 generalize f j = q at h1
 cases h1 with | int _ _ m hm => rw [← hm]; rfl
open Go.RowKit in
theorem clone_lx (A : List Int) (k : Int) (cells : List PV) (hk : k = A.length) (hcs : cells = ipv A) (hAl : A.length ≤ 100000) : CallF (fun _ => Tryz.prog) 99 [.p (.vsl (.sym k) true cells)] [] 0 (fun r h n => ∃ T : List PV,r = .sl 0 3 1 (.lit 0) (.sym k) ∧ h = [hpP 0 T] ∧ n = 1 ∧ T = ipv A) := by
 refine .mk ⟨_,_,Tryz.func99,by kernel_rfl,rfl⟩ fun c w xs hr hN hl2 hrel => ?_
 obtain ⟨x,rfl,hx⟩ : ∃ x,xs = #[x] ∧ LR c w (.p (.vsl (.sym k) true cells)) x := by
  have h0 := hrel 0 _ rfl
  rcases xs with ⟨l⟩
  match l,hl2 with
  | [x],_ => exact ⟨x,rfl,h0⟩
 cases hx with | p _ _ hx => ?_
 cases hx with
 | vsl0 _ _ _ a cp h0 hc =>
  have h0 : k = 0 := h0
  have hA : A = [] := List.eq_nil_of_length_eq_zero (by omega)
  subst hA
  cases a with
  | none =>
   refine (Tryz.slices_Clone_int_nil 0 cp w).mono ?_
   rintro e w' ⟨rfl,rfl⟩
   have hh := hr.void true
   rw [hN] at hh
   refine ⟨c.grow none,.sl 0 3 1 (.lit 0) (.sym k),_,[(0,.pure true [])],1,rfl,⟨[],rfl,rfl,rfl,rfl⟩,hh,by show c.N + 1 = 1; omega,?_,Ext.void hr⟩
   have hm : (c.grow none).m 0 = some none := by have := grow_new c none; rwa [hN] at this
   exact .slv _ _ _ _ _ hm rfl h0
  | some a =>
   refine (Tryz.slices_Clone_int_zero a cp w).mono ?_
   rintro e w' ⟨v',rfl,ho,hne,hb⟩
   exact clone_own hr hN hk rfl ho hne hb
 | vsl _ _ _ a n cp f hn hs hM hlt hk2 hc hcell hr2 =>
  have hn : k = n := hn
  have hnA : n = A.length := by omega
  rw [hcs] at hcell hr2
  have ha : a = ⟨a.block,a.off,none⟩ := by cases a; cases hs; rfl
  rw [ha]
  refine (Tryz.slices_Clone_int a.block a.off n cp A w (by omega) (by omega) (fun j hj => ?_)).mono ?_
  ·have h1 := hcell j _ (ipv_get (List.getElem?_eq_getElem hj))
   rw [ints_cells hr2 hj] at h1
   rw [addr_add hs] at h1; exact h1
  ·rintro e w' ⟨v',rfl,ho,hne,hb⟩
   rw [hnA,List.take_length] at ho
   exact clone_own hr hN hk rfl ho hne hb
def Made (W : Int) (A : List Int) (s : Hst) (out : List Gn) (t : Hst) : Prop := ∃ (o1 o2 : List Gn) (k1 k2 : Nat) (t2 t3 : Hst),out = o1 ++ o2 ∧ Many W s k1 o1 t2 ∧ t2.ph = 0 ∧ Bgn W t2 (A ++ keptOf o1) t3 ∧ Many W t3 k2 o2 t ∧ t.ph = 0
theorem makeRoom_lx (R : List Rw) (ws C G : List Int) (N W ph sp cy : Int) (L D Q : List PV) (z : ByteArray) (ov : Bool) (h : HM R ws C G N W L D Q z) (o : Unit → Obj) (ho : IsPow o) (hg : Good N ⟨R,ws,C,G,ov,ph,sp,cy⟩) (hcy : cy ≤ 800000000) (A : List Int) (j : Int) (ca : List PV) (hca : ca = ipv A) (hj : j = A.length) (hAl : A.length ≤ 100000) :
  CallF (fun _ => Tryz.prog) 59 [.ptr 0 (.lit 0),.p (.vsl (.sym j) true ca)] [hpA 0 1 5 6 3 W ph sp cy,hpB 1 2 4 3 W,hpC 2 3 137 2 N,hpP 3 L,hpP 4 D,hpF 5 z ov,hpP 6 Q,(7,.fix 0 o)] 8 (fun r h n => ∃ (out : List Gn) (m : Int) (cells : List PV) (Rh : List Rw) (wh Ch Gh : List Int) (ovh : Bool) (sp2 cy2 : Int) (Lh Dh Qh : List PV) (zh : ByteArray),r = .sl 9 40 4 (.lit 0) (.sym m) ∧ h = [hpA 0 1 8 6 3 W 0 sp2 cy2,hpB 1 2 4 3 W,hpC 2 3 137 2 N,hpP 3 Lh,hpP 4 Dh,hpF 8 zh ovh,hpP 6 Qh,(7,.fix 0 o),hpP 9 cells] ∧ n = 10 ∧ HM Rh wh Ch Gh N W Lh Dh Qh zh ∧ cells = gpv out ∧ m = out.length ∧ Made W A ⟨R,ws,C,G,ov,ph,sp,cy⟩ out ⟨Rh,wh,Ch,Gh,ovh,0,sp2,cy2⟩) := by
 have hW := h.w
 have hW2 : W = 32 * N := hW
 refine callF_of_body tok Tryz.func59 (by kernel_rfl) rfl rfl rfl ?_; conv => cbv
 refine cfr (toTheEnd_lx R ws C G N W ph sp cy L D Q z ov h o ho hg (by omega)) [(0,0),(1,1),(2,2),(3,3),(4,4),(5,5),(6,6),(7,7)] (fun r h' n' hrr => ?_)
 obtain ⟨o1,m1,c1,k1,R1,ws1,C1,G1,ov1,sp1,cy1,L1,D1,Q1,z1,e1,e2,e3,h1,hc1,hm1,hM1⟩ := hrr
 subst e1 e2 e3
 obtain ⟨g1,_,hy1,_⟩ := hM1.good hW2 hg
 have hb1 := hM1.cyb hW2 hg
 conv => cbv
 refine cfr (clone_lx A j ca hj hca hAl) [] (fun r h' n' hrr => ?_)
 obtain ⟨T,e1,e2,e3,hT⟩ := hrr
 subst e1 e2 e3
 conv => cbv
 refine callF_lend (keptOf_lx o1 m1 c1 hm1 hc1 (by omega)) (by simp [lends,lendV,hget,I.val,pvle]) (fun r h' n' hrr => ?_) (fun r h' n' hrr => ?_)
 ·obtain ⟨m2,T2,e1,e2,e3,hT2,hm2⟩ := hrr
  subst e1 e2
  exact ⟨trivial,fun u hu => by rw [hT2] at hu; obtain ⟨y,_,rfl⟩ := List.mem_map.1 hu; exact trivial,trivial⟩
 obtain ⟨m2,T2,e1,e2,e3,hT2,hm2⟩ := hrr
 subst e1 e2 e3
 conv => cbv
 have hTl : T.length = A.length := by rw [hT,ipv_length]
 have hT2l : T2.length = (keptOf o1).length := by rw [hT2,ipv_length]
 have hgk := gone_kept o1
 refine Room.new (by show (T2.length : Int) = m2 * 1; omega) ?_
 conv => cbv
 refine Room.new ⟨by show (T.length : Int) = j * 1; omega,by show (j + m2) * 8 ≤ 140737488355328; omega,by show j + m2 ≤ 9223372036854775807; omega⟩ ?_
 conv => cbv
 refine Upd.mk fun T3 hT3 => ?_
 have hT3 : T3 = ipv (A ++ keptOf o1) := by rw [show T3 = T ++ T2 from hT3,hT,hT2,← ipv_app]
 conv => cbv
 refine Sum.mk fun m3 hm3 => ?_
 have hm3 : m3 = ((A ++ keptOf o1).length : Int) := by rw [show m3 = j + m2 from hm3,hj,hm2,List.length_append]; rfl
 conv => cbv
 refine CallF.re (args0 := [.ptr 0 (.lit 0),.p (.vsl (.sym m3) true T3)]) (h' := [hpA 0 1 5 6 3 W 0 sp1 cy1,hpB 1 2 4 3 W,hpC 2 3 137 2 N,hpP 3 L1,hpP 4 D1,hpF 5 z1 ov1,hpP 6 Q1,(7,.fix 0 o),hpP 8 c1]) (Re.at [(0,0),(1,1),(2,2),(3,3),(4,4),(5,5),(6,6),(7,7),(8,8)] []) (cfr (begin_lx R1 ws1 C1 G1 N W 0 sp1 cy1 L1 D1 Q1 z1 ov1 h1 o ho (A ++ keptOf o1) m3 T3 hT3 hm3 (by rw [List.length_append]; omega) rfl) [(0,0),(1,1),(2,2),(3,3),(4,4),(5,5),(6,6),(7,7)] (fun r h' n' hrr => ?_))
 obtain ⟨C3,G3,ov3,Q3,z3,e1,e2,e3,h3,hb3⟩ := hrr
 subst e1 e2 e3
 have hB : Bgn W ⟨R1,ws1,C1,G1,ov1,0,sp1,cy1⟩ (A ++ keptOf o1) ⟨R1,ws1,C3,G3,ov3,1,sp1,cy1⟩ := ⟨rfl,rfl,rfl,rfl,rfl,(by have := h3.c; show (C3.length : Int) = W; exact this),hb3⟩
 conv => cbv
 have g3 := hB.good hW2 g1
 refine cfr (toTheEnd_lx R1 ws1 C3 G3 N W 1 sp1 cy1 L1 D1 Q3 z3 ov3 h3 o ho g3 (by have := hb1.1; show cy1 ≤ 900000000; have h9 : cy1 ≤ cy + 2177 := hb1.1; omega)) [(0,0),(1,1),(2,2),(3,3),(4,4),(5,12),(6,6),(7,7)] (fun r h' n' hrr => ?_)
 obtain ⟨o4,m4,c4,k4,R4,ws4,C4,G4,ov4,sp4,cy4,L4,D4,Q4,z4,e1,e2,e3,h4,hc4,hm4,hM4⟩ := hrr
 subst e1 e2 e3
 have hb4 := hM4.cyb hW2 g3
 have hl1 : c1.length = 4 * o1.length := by rw [hc1,gpv_length]
 have hl4 : c4.length = 4 * o4.length := by rw [hc4,gpv_length]
 conv => cbv
 refine Room.new (by show (c4.length : Int) = m4 * 4; omega) ?_
 conv => cbv
 refine Room.new ⟨by show (c1.length : Int) = m1 * 4; omega,by show (m1 + m4) * 48 ≤ 140737488355328; omega,by show m1 + m4 ≤ 9223372036854775807; omega⟩ ?_
 conv => cbv
 refine Upd.mk fun c5 hc5 => ?_
 have hc5 : c5 = gpv (o1 ++ o4) := by rw [show c5 = c1 ++ c4 from hc5,hc1,hc4,← gpv_app]
 conv => cbv
 refine Sum.mk fun m5 hm5 => ?_
 have hm5 : m5 = ((o1 ++ o4).length : Int) := by rw [show m5 = m1 + m4 from hm5,hm1,hm4,List.length_append]; rfl
 conv => cbv
 refine RetF.mk [.sl 9 40 4 (.lit 0) (.sym m5)] [hpA 0 1 8 6 3 W 0 sp4 cy4,hpB 1 2 4 3 W,hpC 2 3 137 2 N,hpP 3 L4,hpP 4 D4,hpF 8 z4 ov4,hpP 6 Q4,(7,.fix 0 o),hpP 9 c5] 10 (Re.at [(0,0),(1,1),(2,2),(3,3),(4,4),(12,8),(6,6),(7,7),(14,9)] []) rfl ⟨o1 ++ o4,m5,c5,R4,ws4,C4,G4,ov4,sp4,cy4,L4,D4,Q4,z4,rfl,rfl,rfl,h4,hc5,hm5,o1,o4,k1,k4,_,_,rfl,hM1,rfl,hB,hM4,rfl⟩
theorem newHAny_bad (n : Int) (hn : n < 2 ∨ 128 < n) : CallF (fun _ => Tryz.prog) 44 [i6 n] [] 0 (fun r h m => (∃ e : Int,r = .tup [.p .nilp,i6 e] ∧ e ≠ 0) ∧ h = [] ∧ m = 0) := by
 refine callF_of_body tok Tryz.func44 (by kernel_rfl) rfl rfl rfl ?_; conv => cbv
 refine callF_frame (newA_bad n hn) [] rfl trivial rfl rfl (fun r h' n' hrr => ?_)
 obtain ⟨⟨e,e1,he⟩,e2,e3⟩ := hrr
 subst e1 e2 e3
 conv => cbv
 refine Br.yes (show e ≠ 0 from he) ?_
 conv => cbv
 refine RetF.mk [.p .nilp,i6 e] [] 0 (Re.at [] []) rfl ⟨⟨e,rfl,he⟩,rfl,rfl⟩
def COk (N st as_ : Int) : Prop := 1 ≤ st ∧ st ≤ 100 ∧ 0 ≤ as_ ∧ as_ ≤ 8
theorem newS_bad (N st as_ : Int) (hb : ¬ (COk N st as_ ∧ 2 ≤ N ∧ N ≤ 128)) : CallF (fun _ => Tryz.prog) 11 [.agg [i6 N,i6 st,i6 as_]] [] 0 (fun r h m => (∃ e : Int,r = .tup [.p .nilp,i6 e] ∧ e ≠ 0) ∧ h = [] ∧ m = 0) := by
 unfold COk at hb
 refine callF_of_body tok Tryz.func11 (by kernel_rfl) rfl rfl rfl ?_; conv => cbv
 refine Br.mk (fun g => ?_) (fun g => ?_)
 ·conv => cbv
  refine RetF.mk [.p .nilp,i6 1] [] 0 (Re.at [] []) rfl ⟨⟨1,rfl,by decide⟩,rfl,rfl⟩
 have g : ¬ (st < 1) := g
 conv => cbv
 refine Br.mk (fun g => ?_) (fun g => ?_)
 ·conv => cbv
  refine RetF.mk [.p .nilp,i6 1] [] 0 (Re.at [] []) rfl ⟨⟨1,rfl,by decide⟩,rfl,rfl⟩
 have g2 : ¬ (100 < st) := g
 conv => cbv
 refine Br.mk (fun g => ?_) (fun g => ?_)
 ·conv => cbv
  refine RetF.mk [.p .nilp,i6 1] [] 0 (Re.at [] []) rfl ⟨⟨1,rfl,by decide⟩,rfl,rfl⟩
 have g3 : ¬ (as_ < 0) := g
 conv => cbv
 refine Br.mk (fun g => ?_) (fun g => ?_)
 ·conv => cbv
  refine RetF.mk [.p .nilp,i6 1] [] 0 (Re.at [] []) rfl ⟨⟨1,rfl,by decide⟩,rfl,rfl⟩
 have g4 : ¬ (8 < as_) := g
 conv => cbv
 refine callF_frame (newHAny_bad N (by omega)) [] rfl trivial rfl rfl (fun r h' n' hrr => ?_)
 obtain ⟨⟨e,e1,he⟩,e2,e3⟩ := hrr
 subst e1 e2 e3
 conv => cbv
 refine Br.yes (show e ≠ 0 from he) ?_
 conv => cbv
 refine RetF.mk [.p .nilp,i6 e] [] 0 (Re.at [] []) rfl ⟨⟨e,rfl,he⟩,rfl,rfl⟩
theorem newS_lx (N W st as_ : Int) (hc : COk N st as_) (h2 : 2 ≤ N) (h8 : N ≤ 128) (hW : W = 32 * N) (L D Q : List PV) (z : ByteArray) (hL : L = rpv (List.replicate N.toNat (0,[]))) (hD : D = ipv (List.replicate W.toNat 0)) (hQ : Q = ipv (List.replicate W.toNat 0)) (hz : z = ⟨(enc []).toArray⟩) : CallF (fun _ => Tryz.prog) 11 [.agg [i6 N,i6 st,i6 as_]] [] 0 (fun r h n => r = .tup [.ptr 0 (.lit 0),.p (.int .i64 (.lit 0))] ∧ h = [(0,.mix [.ptr 1 (.lit 0),i6 st,i6 as_]),hpA 1 2 6 7 3 W 0 0 0,hpB 2 3 5 3 W,hpC 3 4 137 2 N,hpP 4 L,hpP 5 D,hpF 6 z false,hpP 7 Q] ∧ n = 8) := by
 unfold COk at hc
 refine callF_of_body tok Tryz.func11 (by kernel_rfl) rfl rfl rfl ?_; conv => cbv
 refine Br.no (show ¬ (st < 1) by omega) ?_
 conv => cbv
 refine Br.no (show ¬ (100 < st) by omega) ?_
 conv => cbv
 refine Br.no (show ¬ (as_ < 0) by omega) ?_
 conv => cbv
 refine Br.no (show ¬ (8 < as_) by omega) ?_
 conv => cbv
 refine callF_frame (newH_lx N W h2 h8 hW L D Q z hL hD hQ hz) [] rfl trivial rfl rfl (fun r h' n' ⟨e1,e2,e3⟩ => ?_)
 subst e1 e2 e3
 conv => cbv
 refine RetF.mk [.ptr 0 (.lit 0),.p (.int .i64 (.lit 0))] [(0,.mix [.ptr 1 (.lit 0),i6 st,i6 as_]),hpA 1 2 6 7 3 W 0 0 0,hpB 2 3 5 3 W,hpC 3 4 137 2 N,hpP 4 L,hpP 5 D,hpF 6 z false,hpP 7 Q] 8 (Re.at [(8,0),(1,1),(2,2),(3,3),(4,4),(5,5),(6,6),(7,7)] []) rfl ⟨rfl,rfl,rfl⟩
theorem heapS_lx (R : List Rw) (ws C G : List Int) (N W ph sp cy : Int) (L D Q : List PV) (z : ByteArray) (ov : Bool) (st as_ : Int) : CallF (fun _ => Tryz.prog) 20 [.ptr 0 (.lit 0)] [(0,.mix [.ptr 1 (.lit 0),i6 st,i6 as_]),hpA 1 2 6 7 3 W ph sp cy,hpB 2 3 5 3 W,hpC 3 4 137 2 N,hpP 4 L,hpP 5 D,hpF 6 z ov,hpP 7 Q] 8 (fun r h n => r = .ptr 1 (.lit 0) ∧ h = [(0,.mix [.ptr 1 (.lit 0),i6 st,i6 as_]),hpA 1 2 6 7 3 W ph sp cy,hpB 2 3 5 3 W,hpC 3 4 137 2 N,hpP 4 L,hpP 5 D,hpF 6 z ov,hpP 7 Q] ∧ n = 8) := by
 refine callF_of_body tok Tryz.func20 (by kernel_rfl) rfl rfl rfl ?_; conv => cbv
 refine RetF.mk [.ptr 1 (.lit 0)] [(0,.mix [.ptr 1 (.lit 0),i6 st,i6 as_]),hpA 1 2 6 7 3 W ph sp cy,hpB 2 3 5 3 W,hpC 3 4 137 2 N,hpP 4 L,hpP 5 D,hpF 6 z ov,hpP 7 Q] 8 (Re.at [(0,0),(1,1),(2,2),(3,3),(4,4),(5,5),(6,6),(7,7)] []) rfl ⟨rfl,rfl,rfl⟩
theorem heapS_nil : CallF (fun _ => Tryz.prog) 20 [.p .nilp] [] 0 (fun r h n => r = .p .nilp ∧ h = [] ∧ n = 0) := by
 refine callF_of_body tok Tryz.func20 (by kernel_rfl) rfl rfl rfl ?_; conv => cbv
 refine RetF.mk [.p .nilp] [] 0 (Re.at [] []) rfl ⟨rfl,rfl,rfl⟩
def mkG (m : Nat) : List Bool := List.replicate m true ++ List.replicate (2 - m) false
def rowG (k j : Nat) : Rw := if 2 * j < k then (2,mkG (min (k - 2 * j) 2)) else (0,[])
def FillG (R : List Rw) (k : Nat) : Prop := ∀ j,j < R.length → R[j]? = some (rowG k j)
theorem mkG_get {m s : Nat} {b : Bool} (hm : m ≤ 2) (h : (mkG m)[s]? = some b) : s < 2 ∧ (b = true ↔ s < m) := by
 have hl : (mkG m).length = 2 := by rw [mkG,List.length_append,List.length_replicate,List.length_replicate]; omega
 have hs := (List.getElem?_eq_some_iff.1 h).1
 refine ⟨by omega,?_⟩
 by_cases hsm : s < m
 ·rw [mkG,List.getElem?_append_left (by rw [List.length_replicate]; exact hsm),List.getElem?_replicate,if_pos hsm] at h
  cases h
  exact ⟨fun _ => hsm,fun _ => rfl⟩
 ·rw [mkG,List.getElem?_append_right (by rw [List.length_replicate]; omega),List.getElem?_replicate,if_pos (by rw [List.length_replicate]; omega)] at h
  cases h
  exact ⟨fun h => (by cases h),fun h => absurd h hsm⟩
theorem mkG_at {m s : Nat} (hm : m ≤ 2) (hs : s < 2) : (mkG m)[s]? = some (decide (s < m)) := by
 by_cases hsm : s < m
 ·rw [mkG,List.getElem?_append_left (by rw [List.length_replicate]; exact hsm),List.getElem?_replicate,if_pos hsm,decide_eq_true hsm]
 ·rw [mkG,List.getElem?_append_right (by rw [List.length_replicate]; omega),List.getElem?_replicate,if_pos (by rw [List.length_replicate]; omega),decide_eq_false hsm]
theorem mkG_set {m : Nat} (h : m < 2) : (mkG m).set m true = mkG (m + 1) := by
 have : m = 0 ∨ m = 1 := by omega
 rcases this with rfl | rfl <;> rfl
theorem FillG.step {R R' : List Rw} {k : Nat} {i s : Int} (hF : FillG R k) (h : Alloced R 2 i s true R') : 32 * i + s * 16 = 16 * (k : Int) ∧ FillG R' (k + 1) := by
 cases h with
 | old i s l h0 hi hs h1 h2 =>
  have hil := (List.getElem?_eq_some_iff.1 hi).1
  have hr := hF i hil
  rw [hi] at hr
  have hr := Option.some.inj hr
  unfold rowG at hr
  split at hr
  ·rename_i hik
   have hl : l = mkG (min (k - 2 * i) 2) := congrArg Prod.snd hr
   obtain ⟨m,hm⟩ : ∃ m,m = min (k - 2 * i) 2 := ⟨_,rfl⟩
   rw [← hm] at hl
   subst hl
   obtain ⟨hs2,hsm⟩ := mkG_get (by omega) hs
   have hsm : ¬ s < m := fun h => by have := hsm.2 h; cases this
   have hms : ¬ m < s := fun h => by
    have h3 := (mkG_get (by omega) (h1 m h)).2.1 rfl
    omega
   have hse : s = m := by omega
   subst hse
   refine ⟨by omega,fun j hj => ?_⟩
   rw [List.length_set] at hj
   by_cases e : j = i
   ·subst e
    rw [List.getElem?_set_self hil,mkG_set hs2]
    have hq : min (k + 1 - 2 * j) 2 = s + 1 := by omega
    unfold rowG
    rw [if_pos (by omega),hq]
   ·rw [List.getElem?_set_ne (fun h => e h.symm),hF j hj]
    unfold rowG
    by_cases hjk : 2 * j < k
    ·rw [if_pos hjk,if_pos (by omega)]
     have hq : min (k - 2 * j) 2 = min (k + 1 - 2 * j) 2 := by omega
     rw [hq]
    ·rw [if_neg hjk,if_neg (by omega)]
  ·have hl : l = [] := congrArg Prod.snd hr
   subst hl
   simp at hs
 | fresh i d h0 h2 hi h3 =>
  have hil := (List.getElem?_eq_some_iff.1 hi).1
  have hr := hF i hil
  rw [hi] at hr
  have hr := Option.some.inj hr
  have hik : ¬ 2 * i < k := by
   intro hik
   unfold rowG at hr
   rw [if_pos hik] at hr
   have hl : [] = mkG (min (k - 2 * i) 2) := congrArg Prod.snd hr
   have h2z : (mkG (min (k - 2 * i) 2)).length = 2 := by rw [mkG,List.length_append,List.length_replicate,List.length_replicate]; omega
   rw [← hl] at h2z
   simp at h2z
  have hk2 : k % 2 = 0 := by
   refine Classical.byContradiction fun hne => ?_
   have hjl : k / 2 < R.length := by omega
   have hrow := hF (k / 2) hjl
   unfold rowG at hrow
   rw [if_pos (by omega)] at hrow
   refine h2 (k / 2) _ hrow ?_
   have hm : min (k - 2 * (k / 2)) 2 = k % 2 := by omega
   rw [hm]
   have := mkG_at (m := k % 2) (s := k % 2) (by omega) (by omega)
   rw [decide_eq_false (by omega)] at this
   exact List.mem_of_getElem? this
  have hki : k = 2 * i := by
   rcases Nat.eq_zero_or_pos i with e | e
   ·omega
   ·have hj := hF (i - 1) (by omega)
    have hlt : 2 * (i - 1) < k := by
     refine Classical.byContradiction fun hne => ?_
     unfold rowG at hj
     rw [if_neg hne] at hj
     exact h3 (i - 1) (by omega) 0 hj
    omega
  refine ⟨by omega,fun j hj => ?_⟩
  rw [List.length_set] at hj
  by_cases e : j = i
  ·subst e
   rw [List.getElem?_set_self hil]
   have hq : min (k + 1 - 2 * j) 2 = 1 := by omega
   unfold rowG
   rw [if_pos (by omega),hq]; rfl
  ·rw [List.getElem?_set_ne (fun h => e h.symm),hF j hj]
   unfold rowG
   by_cases hjk : 2 * j < k
   ·rw [if_pos hjk,if_pos (by omega)]
    have hq : min (k - 2 * j) 2 = min (k + 1 - 2 * j) 2 := by omega
    rw [hq]
   ·rw [if_neg hjk,if_neg (by omega)]
theorem FillG.new (n : Nat) : FillG (List.replicate n (0,[])) 0 := by
 intro j hj
 rw [List.length_replicate] at hj
 rw [List.getElem?_replicate,if_pos hj]
 unfold rowG
 rw [if_neg (by omega)]
theorem FillG.alloc {R R' : List Rw} {ws ws' : List Int} {k : Nat} {a e : Int} (hF : FillG R k) (h : Alloct R ws 4 10 a e R' ws') (he : e = 0) : a = 16 * (k : Int) ∧ FillG R' (k + 1) := by
 cases h with
 | arg h => exact absurd he (by decide)
 | room i s R' h ha => exact absurd he (by decide)
 | ok i s _ R' h ha hi hat =>
  have h0 : ofN 10 = 2 := rfl
  rw [h0] at ha hat
  obtain ⟨h1,h2⟩ := hF.step ha
  have hw : wordsOf 2 = 16 := rfl
  rw [hw] at hat
  exact ⟨by omega,h2⟩
theorem FillG.room {R R' : List Rw} {ws ws' : List Int} {k : Nat} {a e : Int} (hF : FillG R k) (hk : k < 2 * R.length) (h : Alloct R ws 4 10 a e R' ws') : e = 0 := by
 cases h with
 | arg h => exact absurd (by omega) h
 | ok i s _ R' h ha hi hat => rfl
 | room i s R' h ha =>
  have h0 : ofN 10 = 2 := rfl
  rw [h0] at ha
  have hrow := hF (k / 2) (by omega)
  cases ha with
  | no h => exact absurd h (by decide)
  | full _ h2 h3 =>
   unfold rowG at hrow
   by_cases hq : 2 * (k / 2) < k
   ·rw [if_pos hq] at hrow
    refine absurd ?_ (h2 (k / 2) _ hrow)
    have hm : min (k - 2 * (k / 2)) 2 = k % 2 := by omega
    rw [hm]
    have := mkG_at (m := k % 2) (s := k % 2) (by omega) (by omega)
    rw [decide_eq_false (by omega)] at this
    exact List.mem_of_getElem? this
   ·rw [if_neg hq] at hrow
    exact absurd hrow (h3 (k / 2) 0)
theorem FillG.full {R R' : List Rw} {ws ws' : List Int} {k : Nat} {a e : Int} (hF : FillG R k) (hk : k = 2 * R.length) (h : Alloct R ws 4 10 a e R' ws') : e = 9 ∧ R' = R ∧ ws' = ws := by
 cases h with
 | arg h => exact absurd (by omega) h
 | ok i s _ R' h ha hib hat =>
  have h0 : ofN 10 = 2 := rfl
  rw [h0] at ha
  cases ha with
  | old i s l h0 hi hs h1 h2 =>
   have hil := (List.getElem?_eq_some_iff.1 hi).1
   have hr := hF i hil
   rw [hi] at hr
   have hr := Option.some.inj hr
   unfold rowG at hr
   rw [if_pos (by omega)] at hr
   have hl : l = mkG (min (k - 2 * i) 2) := congrArg Prod.snd hr
   have hm : min (k - 2 * i) 2 = 2 := by omega
   rw [hm] at hl
   subst hl
   obtain ⟨g1,g2⟩ := mkG_get (by omega) hs
   have := g2.2 g1
   cases this
  | fresh i d h0 h2 hi h3 =>
   have hil := (List.getElem?_eq_some_iff.1 hi).1
   have hr := hF i hil
   rw [hi] at hr
   have hr := Option.some.inj hr
   unfold rowG at hr
   rw [if_pos (by omega)] at hr
   have hl : [] = mkG (min (k - 2 * i) 2) := congrArg Prod.snd hr
   have hlen : (mkG (min (k - 2 * i) 2)).length = 2 := by rw [mkG,List.length_append,List.length_replicate,List.length_replicate]; omega
   rw [← hl] at hlen
   cases hlen
 | room i s R' h ha =>
  cases ha with
  | no h => exact ⟨rfl,rfl,rfl⟩
  | full _ h2 h3 => exact ⟨rfl,rfl,rfl⟩
def namesW : ByteArray := ⟨#[99,97,112,32,99,108,111,115,101,100,32,99,111,117,110,116,32,115,116,97,114,116,32,98,117,102,32,116,97,107,101,104,101,97,100,32,116,97,107,101,116,97,105,108,32,115,101,110,100,104,101,97,100,32,115,101,110,100,116,97,105,108,10,10,103,111,114,32,99,104,97,110,32,118,97,108,117,101,32,110,101,120,116,32,116,111,32,114,101,103,32,109,111,114,101,10,105,100,32,115,116,97,116,117,115,32,112,99,32,97,32,98,32,99,32,100,32,101,32,102,32,115,117,100,111,103,115,10,118,97,108,117,101,32,102,105,110,97,108,10,119,104,101,110,32,99,104,97,110,10]⟩
def byteW (p : Nat) : Int := ((namesW.get! p).toNat : Int)
def lnW : Nat → Int
 | 0 => 1
 | p + 1 => if byteW p = 10 then lnW p + 1 else lnW p
def frW : Nat → Int
 | 0 => 0
 | p + 1 => if byteW p = 10 then (p : Int) + 1 else frW p
theorem namesW_dec (p : Nat) (h : p < 150) : ((Utf8.decode namesW p).1 : Int) = byteW p ∧ (Utf8.decode namesW p).2 = 1 := by
 have : ∀ i : Fin 150,((Utf8.decode namesW i.val).1 : Int) = byteW i.val ∧ (Utf8.decode namesW i.val).2 = 1 := by decide +kernel
 exact this ⟨p,h⟩
theorem frW_le (p : Nat) : 0 ≤ frW p ∧ frW p ≤ p := by
 induction p with
 | zero => exact ⟨Int.le_refl _,Int.le_refl _⟩
 | succ p ih => rw [frW]; split <;> omega
theorem lnW_le (p : Nat) : 1 ≤ lnW p ∧ lnW p ≤ p + 1 := by
 induction p with
 | zero => exact ⟨Int.le_refl _,Int.le_refl _⟩
 | succ p ih => rw [lnW]; split <;> omega
def lineW (k : Int) : ByteArray := if k = 1 then namesW.extract 0 63 else if k = 3 then namesW.extract 64 96 else if k = 4 then namesW.extract 96 128 else if k = 5 then namesW.extract 128 140 else if k = 6 then namesW.extract 140 150 else ⟨#[]⟩
theorem lineW_at (p : Nat) (h : p < 150) (h1 : byteW p = 10) (h2 : frW p < p) : lineW (lnW p) = namesW.extract (frW p).toNat (p + 1) ∧ (lnW p = 1 ∨ 3 ≤ lnW p ∧ lnW p ≤ 6) := by
 have : ∀ i : Fin 150,byteW i.val = 10 → frW i.val < i.val → lineW (lnW i.val) = namesW.extract (frW i.val).toNat (i.val + 1) ∧ (lnW i.val = 1 ∨ 3 ≤ lnW i.val ∧ lnW i.val ≤ 6) := by decide +kernel
 exact this ⟨p,h⟩ h1 h2
theorem lineW_no (k : Int) (h : ∀ q : Nat,q < 150 → byteW q = 10 → frW q < q → lnW q ≠ k) : lineW k = ⟨#[]⟩ := by
 unfold lineW
 split
 ·exact absurd (by rename_i e; rw [e]; decide +kernel) (h 62 (by decide) (by decide +kernel) (by decide +kernel))
 ·split
  ·exact absurd (by rename_i e; rw [e]; decide +kernel) (h 95 (by decide) (by decide +kernel) (by decide +kernel))
  ·split
   ·exact absurd (by rename_i e; rw [e]; decide +kernel) (h 127 (by decide) (by decide +kernel) (by decide +kernel))
   ·split
    ·exact absurd (by rename_i e; rw [e]; decide +kernel) (h 139 (by decide) (by decide +kernel) (by decide +kernel))
    ·split
     ·exact absurd (by rename_i e; rw [e]; decide +kernel) (h 149 (by decide) (by decide +kernel) (by decide +kernel))
     ·rfl
theorem lineOf_lx (k : Int) : CallF (fun _ => Tryz.prog) 121 [i6 k] [] 0 (fun r h n => (∃ z : ByteArray,r = .p (.str fun _ => z) ∧ z = lineW k) ∧ h = [] ∧ n = 0) := by
 refine callF_of_body tok Tryz.func121 (by kernel_rfl) rfl rfl rfl ?_; conv => cbv
 refine LoopF.mk (fun kk s => ∃ (p ln fr : Int),s = ⟨.p (.int .i64 (.sym k)) :: .undef :: .undef :: .p (.int .i64 (.sym ln)) :: .p (.int .i64 (.sym fr)) :: .undef :: .undef :: .ptr 0 (.lit 0) :: undefs 22,[(0,.iter (fun _ => namesW) (.sym p))],1⟩ ∧ 0 ≤ p ∧ p ≤ 150 ∧ kk = (150 - p).toNat ∧ ln = lnW p.toNat ∧ fr = frW p.toNat ∧ (∀ q : Nat,q < p.toNat → byteW q = 10 → frW q < q → lnW q ≠ k)) 150 _
  (Re.at [(0,0)] []) ⟨0,1,0,rfl,by omega,by omega,by omega,rfl,rfl,fun q hq => absurd hq (by omega)⟩ ?_
 rintro kk s ⟨p,ln,fr,rfl,hp0,hp1,hkk,hln,hfr,hno⟩
 have b1 := frW_le p.toNat
 have b2 := lnW_le p.toNat
 conv => cbv
 by_cases hp : p < 150
 ·have hdc := namesW_dec p.toNat (by omega)
  refine NextS.more (show p < 150 by omega) ?_
  intro r p' hr hp'
  have hr : r = byteW p.toNat := hr.trans hdc.1
  have hp' : p' = p + 1 := by
   have : p' = p + ((Utf8.decode namesW p.toNat).2 : Int) := hp'
   rw [this,hdc.2]; rfl
  have hpn : p'.toNat = p.toNat + 1 := by omega
  clear hdc
  conv => cbv
  refine Br.mk (fun g => ?_) (fun g => ?_)
  ·have g : ¬ r = 10 := g
   have hb : ¬ byteW p.toNat = 10 := fun q => g (hr.trans q)
   conv => cbv
   refine Again.mk (150 - p').toNat _ (by omega) (Re.at [(0,0)] []) ⟨p',ln,fr,rfl,by omega,by omega,rfl,by rw [hpn,lnW,if_neg hb]; exact hln,by rw [hpn,frW,if_neg hb]; exact hfr,fun q hq h1 h2 => ?_⟩
   by_cases e : q = p.toNat
   ·rw [e] at h1; exact absurd h1 hb
   ·exact hno q (by omega) h1 h2
  ·have g : r = 10 := Classical.byContradiction fun q => g q
   have hb : byteW p.toNat = 10 := hr.symm.trans g
   conv => cbv
   refine Br.mk (fun g1 => ?_) (fun g1 => ?_)
   ·have g1 : ln = k := g1
    conv => cbv
    refine Br.mk (fun g2 => ?_) (fun g2 => ?_)
    ·have g2 : fr < p := g2
     have hat := lineW_at p.toNat (by omega) hb (by rw [← hfr]; omega)
     conv => cbv
     refine Fit.mk (by show (-9223372036854775808 : Int) ≤ p + 1; omega) (by show p + 1 ≤ 9223372036854775807; omega) fun f2 hf2 => ?_
     have hf2 : f2 = p + 1 := hf2
     conv => cbv
     refine Need.mk (show 0 ≤ fr ∧ fr ≤ f2 ∧ f2 ≤ (150 : Int) by omega) ?_
     conv => cbv
     refine Str.mk fun z hz => ?_
     have hz : z = namesW.extract fr.toNat f2.toNat := hz
     conv => cbv
     refine RetF.mk [.p (.str fun _ => z)] [] 0 (Re.at [] []) rfl ⟨⟨z,rfl,?_⟩,rfl,rfl⟩
     rw [hz,← g1,hln,hat.1,← hfr]
     congr 1
     omega
    ·have g2 : ¬ fr < p := g2
     conv => cbv
     refine Fit.mk (by show (-9223372036854775808 : Int) ≤ ln + 1; omega) (by show ln + 1 ≤ 9223372036854775807; omega) fun l2 hl2 => ?_
     have hl2 : l2 = ln + 1 := hl2
     conv => cbv
     refine Fit.mk (by show (-9223372036854775808 : Int) ≤ p + 1; omega) (by show p + 1 ≤ 9223372036854775807; omega) fun f2 hf2 => ?_
     have hf2 : f2 = p + 1 := hf2
     conv => cbv
     refine Again.mk (150 - p').toNat _ (by omega) (Re.at [(0,0)] []) ⟨p',l2,f2,rfl,by omega,by omega,rfl,by rw [hpn,lnW,if_pos hb]; omega,by rw [hpn,frW,if_pos hb]; omega,fun q hq h1 h2 => ?_⟩
     by_cases e : q = p.toNat
     ·have h2 : frW q < (q : Int) := h2
      rw [e,← hfr] at h2
      omega
     ·exact hno q (by omega) h1 h2
   ·have g1 : ¬ ln = k := g1
    conv => cbv
    refine Fit.mk (by show (-9223372036854775808 : Int) ≤ ln + 1; omega) (by show ln + 1 ≤ 9223372036854775807; omega) fun l2 hl2 => ?_
    have hl2 : l2 = ln + 1 := hl2
    conv => cbv
    refine Fit.mk (by show (-9223372036854775808 : Int) ≤ p + 1; omega) (by show p + 1 ≤ 9223372036854775807; omega) fun f2 hf2 => ?_
    have hf2 : f2 = p + 1 := hf2
    conv => cbv
    refine Again.mk (150 - p').toNat _ (by omega) (Re.at [(0,0)] []) ⟨p',l2,f2,rfl,by omega,by omega,rfl,by rw [hpn,lnW,if_pos hb]; omega,by rw [hpn,frW,if_pos hb]; omega,fun q hq h1 h2 => ?_⟩
    by_cases e : q = p.toNat
    ·rw [e,← hln]; exact g1
    ·exact hno q (by omega) h1 h2
 ·refine NextS.over (show (150 : Int) ≤ p by omega) ?_
  conv => cbv
  refine RetF.mk [.p (.str fun _ => ⟨#[]⟩)] [] 0 (Re.at [] []) rfl ⟨⟨_,rfl,(lineW_no k fun q hq => hno q (by omega)).symm⟩,rfl,rfl⟩
theorem ends_lx (x : Int) : CallF (fun _ => Tryz.prog) 122 [.p (.int .i32 (.sym x))] [] 0 (fun r h n => (∃ b : Bool,r = .p (.bool b) ∧ (b = true ↔ x = 32 ∨ x = 10)) ∧ h = [] ∧ n = 0) := by
 refine callF_of_body tok Tryz.func122 (by kernel_rfl) rfl rfl rfl ?_; conv => cbv
 refine Br.mk (fun g => ?_) (fun g => ?_)
 ·have g : x = 32 := g
  conv => cbv
  refine RetF.mk [.p (.bool true)] [] 0 (Re.at [] []) rfl ⟨⟨true,rfl,by simp [g]⟩,rfl,rfl⟩
 ·have g : ¬ x = 32 := g
  conv => cbv
  refine Br.mk (fun g1 => ?_) (fun g1 => ?_)
  ·have g1 : x = 10 := g1
   conv => cbv
   refine RetF.mk [.p (.bool true)] [] 0 (Re.at [] []) rfl ⟨⟨true,rfl,by simp [g1]⟩,rfl,rfl⟩
  ·have g1 : ¬ x = 10 := g1
   conv => cbv
   refine RetF.mk [.p (.bool false)] [] 0 (Re.at [] []) rfl ⟨⟨false,rfl,by simp [g,g1]⟩,rfl,rfl⟩
def cntW (s : ByteArray) : Nat → Int
 | 0 => 0
 | k + 1 => if (Utf8.decode s k).1 = 32 ∨ (Utf8.decode s k).1 = 10 then cntW s k + 1 else cntW s k
theorem cntW_le (s : ByteArray) (k : Nat) : 0 ≤ cntW s k ∧ cntW s k ≤ k := by
 induction k with
 | zero => exact ⟨Int.le_refl _,Int.le_refl _⟩
 | succ k ih => rw [cntW]; split <;> omega
def flatW (s : ByteArray) : Prop := s.size ≤ 150 ∧ ∀ i : Nat,i < s.size → (Utf8.decode s i).2 = 1
def needW (k : Int) : Int := if k = 1 then 9 else if k = 3 then 7 else if k = 4 then 10 else if k = 5 then 2 else if k = 6 then 2 else 0
theorem lineW_flat (k : Int) : flatW (lineW k) ∧ cntW (lineW k) (lineW k).size = needW k := by
 have key : ∀ (s : ByteArray),s.size ≤ 150 → (∀ i : Fin s.size,(Utf8.decode s i.val).2 = 1) → flatW s := fun s h1 h2 => ⟨h1,fun i hi => h2 ⟨i,hi⟩⟩
 unfold lineW needW
 split
 ·exact ⟨key _ (by decide +kernel) (by decide +kernel),by decide +kernel⟩
 ·split
  ·exact ⟨key _ (by decide +kernel) (by decide +kernel),by decide +kernel⟩
  ·split
   ·exact ⟨key _ (by decide +kernel) (by decide +kernel),by decide +kernel⟩
   ·split
    ·exact ⟨key _ (by decide +kernel) (by decide +kernel),by decide +kernel⟩
    ·split
     ·exact ⟨key _ (by decide +kernel) (by decide +kernel),by decide +kernel⟩
     ·exact ⟨key _ (by decide +kernel) (by decide +kernel),by decide +kernel⟩
theorem needR_lx (k m : Int) (hk : k ≠ 2) : CallF (fun _ => Tryz.prog) 95 [i6 k,i6 m] [] 0 (fun r h n => (∃ (v : Int) (b : Bool),r = .tup [i6 v,.p (.bool b)] ∧ v = needW k ∧ (b = true ↔ v > 0)) ∧ h = [] ∧ n = 0) := by
 refine callF_of_body tok Tryz.func95 (by kernel_rfl) rfl rfl rfl ?_; conv => cbv
 refine Br.no (show ¬ (k = 2) from hk) ?_
 conv => cbv
 refine callF_frame (lineOf_lx k) [] rfl trivial rfl rfl (fun r h' n' hrr => ?_)
 obtain ⟨⟨z,e1,hz⟩,e2,e3⟩ := hrr
 subst e1 e2 e3
 obtain ⟨hfl,hct⟩ := lineW_flat k
 rw [← hz] at hfl hct
 conv => cbv
 obtain ⟨hsz,hone⟩ := hfl
 obtain ⟨N,hN⟩ : ∃ N : Int,N = z.size := ⟨_,rfl⟩
 refine LoopF.mk (fun kk s => ∃ (p v : Int),s = ⟨undefs 6 ++ .p (.int .i64 (.sym v)) :: undefs 13 ++ .ptr 0 (.lit 0) :: undefs 10,[(0,.iter (fun _ => z) (.sym p))],1⟩ ∧ 0 ≤ p ∧ p ≤ N ∧ kk = (150 - p).toNat ∧ v = cntW z p.toNat) 150 _
  (Re.at [(0,0)] []) ⟨0,0,rfl,by omega,by omega,by omega,rfl⟩ ?_
 rintro kk s ⟨p,v,rfl,hp0,hp1,hkk,hv⟩
 have hb := cntW_le z p.toNat
 have hp0 : 0 ≤ p := hp0
 have hv : v = cntW z p.toNat := hv
 conv => cbv
 by_cases hp : p < (z.size : Int)
 ·refine NextS.more (show p < (z.size : Int) from hp) ?_
  intro r p' hr hp'
  have hr : r = ((Utf8.decode z p.toNat).1 : Int) := hr
  have hp' : p' = p + 1 := by
   have : p' = p + ((Utf8.decode z p.toNat).2 : Int) := hp'
   rw [this,hone p.toNat (by omega)]; rfl
  have hpn : p'.toNat = p.toNat + 1 := by omega
  conv => cbv
  refine callF_frame (ends_lx r) [] rfl trivial rfl rfl (fun r2 h' n' hrr => ?_)
  obtain ⟨⟨b,e1,hb2⟩,e2,e3⟩ := hrr
  subst e1 e2 e3
  cases b with
  | true =>
   have he : (Utf8.decode z p.toNat).1 = 32 ∨ (Utf8.decode z p.toNat).1 = 10 := by have := hb2.1 rfl; omega
   conv => cbv
   refine Fit.mk (by show (-9223372036854775808 : Int) ≤ v + 1; omega) (by show v + 1 ≤ 9223372036854775807; omega) fun v2 hv2 => ?_
   have hv2 : v2 = v + 1 := hv2
   conv => cbv
   refine Again.mk (150 - p').toNat _ (by omega) (Re.at [(0,0)] []) ⟨p',v2,rfl,by omega,by omega,rfl,by rw [hpn,cntW,if_pos he]; omega⟩
  | false =>
   have he : ¬ ((Utf8.decode z p.toNat).1 = 32 ∨ (Utf8.decode z p.toNat).1 = 10) := fun q => by have := hb2.2 (by omega); cases this
   conv => cbv
   refine Again.mk (150 - p').toNat _ (by omega) (Re.at [(0,0)] []) ⟨p',v,rfl,by omega,by omega,rfl,by rw [hpn,cntW,if_neg he]; omega⟩
 ·refine NextS.over (show (z.size : Int) ≤ p by omega) ?_
  have hpe : p.toNat = z.size := by omega
  rw [hpe,hct] at hv
  conv => cbv
  refine Br.mk (fun g => ?_) (fun g => ?_)
  ·have g : 0 < v := g
   conv => cbv
   refine RetF.mk [i6 v,.p (.bool true)] [] 0 (Re.at [] []) rfl ⟨⟨v,true,rfl,hv,by simp; omega⟩,rfl,rfl⟩
  ·have g : ¬ 0 < v := g
   conv => cbv
   refine RetF.mk [i6 v,.p (.bool false)] [] 0 (Re.at [] []) rfl ⟨⟨v,false,rfl,hv,by simp; omega⟩,rfl,rfl⟩
theorem needBuf_lx (m : Int) : CallF (fun _ => Tryz.prog) 95 [.p (.int .i64 (.lit 2)),i6 m] [] 0 (fun r h n => (∃ (v : Int) (b : Bool),r = .tup [i6 v,.p (.bool b)] ∧ ((0 ≤ m ∧ m ≤ 3 ∧ v = m ∧ b = true) ∨ (¬ (0 ≤ m ∧ m ≤ 3) ∧ v = 0 ∧ b = false))) ∧ h = [] ∧ n = 0) := by
 refine callF_of_body tok Tryz.func95 (by kernel_rfl) rfl rfl rfl ?_; conv => cbv
 refine Br.mk (fun g => ?_) (fun g => ?_)
 ·have g : m < 0 := g
  conv => cbv
  refine RetF.mk [i6 0,.p (.bool false)] [] 0 (Re.at [] []) rfl ⟨⟨0,false,rfl,.inr ⟨by omega,rfl,rfl⟩⟩,rfl,rfl⟩
 ·have g : ¬ m < 0 := g
  conv => cbv
  refine Br.mk (fun g1 => ?_) (fun g1 => ?_)
  ·have g1 : 3 < m := g1
   conv => cbv
   refine RetF.mk [i6 0,.p (.bool false)] [] 0 (Re.at [] []) rfl ⟨⟨0,false,rfl,.inr ⟨by omega,rfl,rfl⟩⟩,rfl,rfl⟩
  ·have g1 : ¬ 3 < m := g1
   conv => cbv
   refine RetF.mk [i6 m,.p (.bool true)] [] 0 (Re.at [] []) rfl ⟨⟨m,true,rfl,.inl ⟨by omega,by omega,rfl,rfl⟩⟩,rfl,rfl⟩
def needV (k : Int) : Int := if k = 2 then 0 else needW k
def hasV (k : Int) : Prop := k = 2 ∨ needW k > 0
theorem need_lx (k : Int) : CallF (fun _ => Tryz.prog) 95 [i6 k,.p (.int .i64 (.lit 0))] [] 0 (fun r h n => (∃ (v : Int) (b : Bool),r = .tup [i6 v,.p (.bool b)] ∧ v = needV k ∧ (b = true ↔ hasV k)) ∧ h = [] ∧ n = 0) := by
 by_cases hk : k = 2
 ·refine CallF.le (args0 := [.p (.int .i64 (.lit 2)),i6 0]) (CallF.mono (needBuf_lx 0) ?_) (by simp [ales,ale,pvle,I.val,hk])
  rintro r h n ⟨⟨v,b,e1,h1⟩,e2,e3⟩
  rcases h1 with ⟨_,_,h1,h2⟩ | ⟨h1,_,_⟩
  ·exact ⟨⟨v,b,e1,by rw [h1,needV,if_pos hk],by rw [h2]; simp [hasV,hk]⟩,e2,e3⟩
  ·exact absurd (by omega) h1
 ·refine CallF.le (args0 := [i6 k,i6 0]) (CallF.mono (needR_lx k 0 hk) ?_) (by simp [ales,ale,pvle,I.val])
  rintro r h n ⟨⟨v,b,e1,h1,h2⟩,e2,e3⟩
  exact ⟨⟨v,b,e1,by rw [h1,needV,if_neg hk],by rw [h2,h1]; simp [hasV,hk]⟩,e2,e3⟩
def NeedR (k m v : Int) (b : Bool) : Prop := (k = 2 ∧ ((0 ≤ m ∧ m ≤ 3 ∧ v = m ∧ b = true) ∨ (¬ (0 ≤ m ∧ m ≤ 3) ∧ v = 0 ∧ b = false))) ∨ (k ≠ 2 ∧ v = needW k ∧ (b = true ↔ v > 0))
theorem needAny_lx (k m : Int) : CallF (fun _ => Tryz.prog) 95 [i6 k,i6 m] [] 0 (fun r h n => (∃ (v : Int) (b : Bool),r = .tup [i6 v,.p (.bool b)] ∧ NeedR k m v b) ∧ h = [] ∧ n = 0) := by
 by_cases hk : k = 2
 ·refine CallF.le ((needBuf_lx m).mono ?_) (by simp [ales,ale,pvle,I.val,hk])
  rintro r h n ⟨⟨v,b,e1,h1⟩,e2,e3⟩
  exact ⟨⟨v,b,e1,.inl ⟨hk,h1⟩⟩,e2,e3⟩
 ·refine (needR_lx k m hk).mono ?_
  rintro r h n ⟨⟨v,b,e1,h1,h2⟩,e2,e3⟩
  exact ⟨⟨v,b,e1,.inr ⟨hk,h1,h2⟩⟩,e2,e3⟩
def twosP : List (Int × Int) → List PV
 | [] => []
 | p :: l => .int .i64 (.sym p.1) :: .int .i64 (.sym p.2) :: twosP l
theorem twosP_length : ∀ l,(twosP l).length = 2 * l.length
 | [] => rfl
 | p :: l => by show (twosP l).length + 1 + 1 = _; rw [twosP_length l,List.length_cons]; omega
theorem twosP_get : ∀ (l : List (Int × Int)) (i : Nat) (p : Int × Int),l[i]? = some p → (twosP l)[2 * i]? = some (.int .i64 (.sym p.1)) ∧ (twosP l)[2 * i + 1]? = some (.int .i64 (.sym p.2))
 | [],i,p,h => by simp at h
 | q :: l,0,p,h => by cases h; exact ⟨rfl,rfl⟩
 | q :: l,i + 1,p,h => by
  have := twosP_get l i p h
  rw [show 2 * (i + 1) = 2 * i + 2 by omega]
  exact this
def Sz (l : List (Int × Int)) (X : List Int) : Prop := X.length = l.length ∧ ∀ (i : Nat) (p : Int × Int),l[i]? = some p → ∃ v,X[i]? = some v ∧ NeedR p.1 p.2 v true
theorem sizesOf_lx (l : List (Int × Int)) (k : Int) (cells : List PV) (hk : k = l.length) (hcs : cells = twosP l) (hl : l.length ≤ 100000) : CallF (fun _ => Tryz.prog) 57 [.p (.vsl (.sym k) true cells)] [] 0 (fun r h n => ((∃ (X : List Int) (j : Int) (O : List PV),r = .tup [.p (.vsl (.sym j) true O),.p (.bool true)] ∧ O = ipv X ∧ j = X.length ∧ Sz l X) ∨ (r = .tup [.p .nils,.p (.bool false)] ∧ ∃ p ∈ l,∃ v,NeedR p.1 p.2 v false)) ∧ h = [] ∧ n = 0) := by
 have hcl : cells.length = 2 * l.length := by rw [hcs,twosP_length]
 refine callF_of_body tok Tryz.func57 (by kernel_rfl) rfl rfl rfl ?_; conv => cbv
 refine LoopF.mk (fun kk s => ∃ (i j : Int) (X : List Int) (T : List PV),s = ⟨undefs 2 ++ .p .nils :: .p (.bool false) :: .sl 0 3 1 (.lit 0) (.sym j) :: (undefs 4 ++ .p (.vsl (.sym k) true cells) :: .p (.int .i64 (.sym k)) :: .p (.int .i64 (.sym i)) :: undefs 19),[hpP 0 T],1⟩ ∧ T = ipv X ∧ j = X.length ∧ i = X.length ∧ i ≤ k ∧ (∀ (q : Nat) (p : Int × Int),q < X.length → l[q]? = some p → ∃ v,X[q]? = some v ∧ NeedR p.1 p.2 v true) ∧ kk = (k - i).toNat) k.toNat _
  (Re.at [] [0]) ⟨0,0,[],[],rfl,rfl,rfl,rfl,by omega,fun q p hq => (by simp at hq),by omega⟩ ?_
 rintro kk s ⟨i,j,X,T,rfl,hT,hj,hiX,hik,hX,hkk⟩
 have hTl : T.length = X.length := by rw [hT,ipv_length]
 conv => cbv
 refine Br.mk (fun q => ?_) (fun q => ?_)
 case refine_2 =>
  have q : ¬ i < k := q
  have hXl : X.length = l.length := by omega
  conv => cbv
  refine RetF.mk [.p (.vsl (.sym j) true T),.p (.bool true)] [] 0 (Re.at [] []) rfl ⟨.inl ⟨X,j,T,rfl,hT,hj,hXl,fun q p hp => hX q p (by have := (List.getElem?_eq_some_iff.1 hp).1; omega) hp⟩,rfl,rfl⟩
 have q : i < k := q
 obtain ⟨⟨p1,p2⟩,hp⟩ : ∃ p,l[i.toNat]? = some p := ⟨_,List.getElem?_eq_getElem (by omega)⟩
 obtain ⟨k',rfl⟩ : ∃ k',kk = k' + 1 := ⟨kk - 1,by omega⟩
 have hcc := twosP_get l i.toNat _ hp
 rw [← hcs] at hcc
 dsimp only at hcc
 conv => cbv
 refine Need.mk ⟨by show 0 ≤ i; omega,by show i < k; omega⟩ ?_
 conv => cbv
 refine Sum.mk fun w hw => ?_
 have hw : w = i * 2 := hw
 conv => cbv
 refine Cell.at (w + 0) _ hcc.1 rfl (by omega) ?_
 conv => cbv
 refine Cell.at (w + 1) _ hcc.2 rfl (by omega) ?_
 conv => cbv
 refine callF_frame (needAny_lx p1 p2) [] rfl trivial rfl rfl (fun r h' n' hrr => ?_)
 obtain ⟨⟨v,b,e1,hN⟩,e2,e3⟩ := hrr
 subst e1 e2 e3
 conv => cbv
 cases b with
 | false =>
  conv => cbv
  refine RetF.mk [.p .nils,.p (.bool false)] [] 0 (Re.at [] []) rfl ⟨.inr ⟨rfl,(p1,p2),List.mem_of_getElem? hp,v,hN⟩,rfl,rfl⟩
 | true =>
 conv => cbv
 refine Room.new rfl ?_
 conv => cbv
 refine Room.new ⟨by show (T.length : Int) = j * 1; omega,by show (j + 1) * 8 ≤ 140737488355328; omega,by show j + 1 ≤ 9223372036854775807; omega⟩ ?_
 conv => cbv
 refine Upd.mk fun T2 hT2 => ?_
 have hT2 : T2 = ipv (X ++ [v]) := by rw [show T2 = T ++ [.int .i64 (.sym v)] from hT2,← ipv_app,← hT]; rfl
 conv => cbv
 refine Sum.mk fun j2 hj2 => ?_
 have hj2 : j2 = (X ++ [v]).length := by rw [show j2 = j + 1 from hj2,hj,List.length_append]; rfl
 conv => cbv
 refine Fit.mk (by show (-9223372036854775808 : Int) ≤ i + 1; omega) (by show i + 1 ≤ 9223372036854775807; omega) fun i2 hi2 => ?_
 have hi2 : i2 = i + 1 := hi2
 have hi3 : i2 = ((X ++ [v]).length : Int) := by rw [hi2,hiX,List.length_append]; rfl
 have hX2 : ∀ (q : Nat) (p : Int × Int),q < (X ++ [v]).length → l[q]? = some p → ∃ u,(X ++ [v])[q]? = some u ∧ NeedR p.1 p.2 u true := by
  intro q p hq hpq
  rcases Nat.lt_or_ge q X.length with hlt | hge
  ·obtain ⟨u,h1,h2⟩ := hX q p hlt hpq
   exact ⟨u,by rw [List.getElem?_append_left hlt]; exact h1,h2⟩
  ·have hqe : q = X.length := by rw [List.length_append] at hq; simp at hq; omega
   rw [hqe,show X.length = i.toNat by omega,hp] at hpq
   cases hpq
   exact ⟨v,by rw [hqe,List.getElem?_append_right (Nat.le_refl _),Nat.sub_self]; rfl,hN⟩
 conv => cbv
 refine Again.mk k' _ (Nat.lt_succ_self _) (Re.at [(3,0)] []) ⟨i2,j2,X ++ [v],T2,rfl,hT2,hj2,hi3,by omega,hX2,by omega⟩
def wdsOf : List Int → Int
 | [] => 0
 | n :: l => wordsOf (ofN n) + wdsOf l
theorem wdsOf_take {l : List Int} {i : Nat} {n : Int} (h : l[i]? = some n) : wdsOf (l.take (i + 1)) = wdsOf (l.take i) + wordsOf (ofN n) := by
 induction l generalizing i with
 | nil => simp at h
 | cons a l ih =>
  cases i with
  | zero => cases h; show wordsOf (ofN _) + wdsOf (List.take 0 l) = _; rw [List.take_zero,List.take_zero]; show _ + (0 : Int) = 0 + _; omega
  | succ i =>
   have := ih (i := i) h
   show wordsOf (ofN a) + wdsOf (l.take (i + 1)) = wordsOf (ofN a) + wdsOf (l.take i) + _
   omega
theorem wordsOfS_bd (c : Int) : 0 ≤ wordsOf c ∧ wordsOf c ≤ 32 := by
 unfold wordsOf
 split
 ·omega
 ·split
  ·omega
  ·split
   ·omega
   ·split <;> omega
theorem wordsOf_lx (X : List Int) (j : Int) (O : List PV) (hj : j = X.length) (hO : O = ipv X) (hl : X.length ≤ 100000) (hX : ∀ n ∈ X,0 ≤ n ∧ n ≤ 31) : CallF (fun _ => Tryz.prog) 61 [.p (.vsl (.sym j) true O)] [] 0 (fun r h n => ∃ v : Int,r = .p (.int .i64 (.sym v)) ∧ h = [] ∧ n = 0 ∧ v = wdsOf X) := by
 have hOl : O.length = X.length := by rw [hO,ipv_length]
 refine callF_of_body tok Tryz.func61 (by kernel_rfl) rfl rfl rfl ?_; conv => cbv
 refine LoopF.mk (fun kk s => ∃ i w : Int,s = ⟨undefs 3 ++ .p (.int .i64 (.sym w)) :: (undefs 4 ++ .p (.vsl (.sym j) true O) :: .p (.int .i64 (.sym j)) :: .p (.int .i64 (.sym i)) :: undefs 14),[],0⟩ ∧ w = wdsOf (X.take i.toNat) ∧ 0 ≤ i ∧ i ≤ j ∧ 0 ≤ w ∧ w ≤ 32 * i ∧ kk = (j - i).toNat) j.toNat _
  (Re.at [] []) ⟨0,0,rfl,rfl,by omega,by omega,by omega,by omega,by omega⟩ ?_
 rintro kk s ⟨i,w,rfl,hw,hi0,hij,hw0,hw1,hkk⟩
 conv => cbv
 refine Br.mk (fun q => ?_) (fun q => ?_)
 case refine_2 =>
  have q : ¬ i < j := q
  rw [List.take_of_length_le (by omega : X.length ≤ i.toNat)] at hw
  conv => cbv
  refine RetF.mk [i6 w] [] 0 (Re.at [] []) rfl ⟨w,rfl,rfl,rfl,hw⟩
 have q : i < j := q
 obtain ⟨n,hn⟩ : ∃ n,X[i.toNat]? = some n := ⟨_,List.getElem?_eq_getElem (by omega)⟩
 have hOn : O[i.toNat]? = some (.int .i64 (.sym n)) := by rw [hO]; exact ipv_get hn
 have hnb := hX n (List.mem_of_getElem? hn)
 obtain ⟨k',rfl⟩ : ∃ k',kk = k' + 1 := ⟨kk - 1,by omega⟩
 conv => cbv
 refine Need.mk (show 0 ≤ i ∧ i < j by omega) ?_
 conv => cbv
 refine Cell.at i _ hOn (by simp [I.val]) rfl ?_
 conv => cbv
 refine callF_frame (of_lx n) [] rfl trivial rfl rfl (fun r h' n' hrr => ?_)
 obtain ⟨c,b,e1,e2,e3,hof⟩ := hrr
 subst e1 e2 e3
 have hc : c = ofN n := by
  cases hof with
  | yes c hc h => exact hc
  | no h => exact absurd hnb h
 conv => cbv
 refine callF_frame (words_lx c (wordsOf c) rfl) [] rfl trivial rfl rfl (fun r h' n' ⟨e1,e2,e3⟩ => ?_)
 subst e1 e2 e3
 have hwb := wordsOfS_bd c
 generalize hwc : wordsOf c = wc at hwb
 conv => cbv
 refine Fit.mk (by show (-9223372036854775808 : Int) ≤ w + wc; omega) (by show w + wc ≤ 9223372036854775807; omega) fun w2 hw2 => ?_
 have hw2 : w2 = w + wc := hw2
 conv => cbv
 refine Fit.mk (by show (-9223372036854775808 : Int) ≤ i + 1; omega) (by show i + 1 ≤ 9223372036854775807; omega) fun i2 hi2 => ?_
 have hi2 : i2 = i + 1 := hi2
 have hw3 : w2 = wdsOf (X.take i2.toNat) := by rw [show i2.toNat = i.toNat + 1 by omega,wdsOf_take hn,← hw,← hc,hwc]; exact hw2
 conv => cbv
 refine Again.mk k' _ (Nat.lt_succ_self _) (Re.at [] []) ⟨i2,w2,rfl,hw3,by omega,by omega,by omega,by omega,by omega⟩
end Go.Proofs.YtpbhcdbkmmjimaaGreatDoor
