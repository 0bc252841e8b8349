/-
  Layer 21: StoreKeeps.
-/
import Derived.Test.YtpbhcdbkmmjimaaGreatDoorV1
namespace Go.Proofs.YtpbhcdbkmmjimaaGreatDoor
open Go Go.LX
set_option maxRecDepth 100000
set_option linter.unusedVariables false
set_option linter.unusedSimpArgs false
set_option maxHeartbeats 32000000
theorem rInt21_lx (a : Int) (ha : -1000000 ≤ a ∧ a ≤ 1000000) : CallF (fun _ => Tryz.prog) 40 [i6 a] [] 0 (fun r h n => (∃ x : Int,r = .p (.int .i64 (.sym x)) ∧ x = a * 2) ∧ h = [] ∧ n = 0) := by
 refine callF_of_body tok Tryz.func40 (by kernel_rfl) rfl rfl rfl ?_; conv => cbv
 refine Fit.mk (by show (-9223372036854775808 : Int) ≤ a * 2; omega) (by show a * 2 ≤ 9223372036854775807; omega) fun x hx => ?_
 have hx : x = a * 2 := hx
 conv => cbv
 refine RetF.mk [i6 x] [] 0 (Re.at [] []) rfl ⟨⟨x,rfl,hx⟩,rfl,rfl⟩
theorem Asst.idle {W : Int} {n : Nat} {s t : Hst} {o : List Gn} (hp : s.ph = 0) (h : Asst W n s o t) : o = [] ∧ t = s := by
 obtain ⟨k,_,hm,_⟩ := h
 exact (hm.idle hp).2
theorem Bare0.alloc2 {N W st : Int} {n : Nat} {l : List (Int × Int)} {A : List Int} {s t : Hst} {x : List Int} {o : List Gn} {e : Int} (hW : W = 32 * N) (hb : Bare0 N s) (hst : 1 ≤ st) (hl : ∀ p ∈ l,Val p) (hlen : (l.length : Int) ≤ N) (h : Alcd W st n l A s x o e t) : e = 0 ∧ o = [] ∧ Allot s l true x t ∧ ¬ Renewed W st l A s := by
 have hn := hb.g.n
 have hc := hb.count
 have first : ∀ b y u,Allot s l b y u → b = true := fun b y u hq => hq.roomy hb.g hl (by omega)
 have hren : ¬ Renewed W st l A s := by
  rintro (⟨_,q⟩ | ⟨t0,t1,q1,q2⟩)
  ·have h1 := hb.g.n1
   have h2 : 1 * W ≤ st * W := Int.mul_le_mul_of_nonneg_right hst (by omega)
   rw [hb.used] at q
   omega
  ·have e0 := hb.pre hW hst q1
   subst e0
   have := first _ _ _ q2
   cases this
 cases h with
 | ok x o1 o2 t0 t1 t h0 h1 h2 =>
  have e0 := hb.pre hW hst h0
  subst e0
  cases h1 with
  | quick x t h1 =>
   obtain ⟨e2,e3⟩ := h2.idle (by rw [(h1.good hb.g).2.1.ph]; exact hb.p)
   subst e2 e3
   exact ⟨rfl,rfl,h1,hren⟩
  | forced b x o1 o2 k1 k2 t1 t2 t3 t4 t5 h1 h2 p2 h3 h4 p4 h5 =>
   have := first _ _ _ h1
   cases this
 | room x o t0 t h0 h1 =>
  have e0 := hb.pre hW hst h0
  subst e0
  cases h1 with
  | forced b x o1 o2 k1 k2 t1 t2 t3 t4 t5 h1 h2 p2 h3 h4 p4 h5 =>
   have := first _ _ _ h1
   cases this
def vOf (z : List Int) (i : Int) : List Int := (List.range 10).map fun j : Nat => if (j : Int) < i then (match z[j]? with | some w => w.tmod 1000 * 2 | none => 0) else 0
theorem vOf_len (z : List Int) (i : Int) : (vOf z i).length = 10 := by rw [vOf,List.length_map,List.length_range]
theorem vOf_get {z : List Int} {i : Int} {j : Nat} {w : Int} (h : (vOf z i)[j]? = some w) : j < 10 ∧ w = if (j : Int) < i then (match z[j]? with | some w => w.tmod 1000 * 2 | none => 0) else 0 := by
 have hj : j < 10 := by have := (List.getElem?_eq_some_iff.1 h).1; rw [vOf_len] at this; exact this
 refine ⟨hj,?_⟩
 rw [vOf,List.getElem?_map,List.getElem?_range hj] at h
 exact (Option.some.inj h).symm
theorem vOf_even {z : List Int} {i : Int} {j : Nat} {w : Int} (h : (vOf z i)[j]? = some w) : w % 2 = 0 := by
 obtain ⟨_,rfl⟩ := vOf_get h
 split
 ·split
  ·exact Int.mul_emod_left _ _
  ·rfl
 ·rfl
structure Alone (R : List Rw) (ws : List Int) (a : Int) (V : List Int) : Prop where
 o : ∀ b ∈ objs R,b = a
 k : Kept R ws a 4 10
 v : ∀ (i : Nat) w,V[i]? = some w → Loaded R ws a i w 0
theorem Alone.new {N : Int} {s t : Hst} {a : Int} (z : List Int) (hb : Bare0 N s) (hg : Good N t) (hm : More s t [a]) (hk : Kept t.R t.ws a 4 10) : Alone t.R t.ws a (vOf z 0) := by
 refine ⟨fun b hb2 => ?_,hk,fun j w hj => ?_⟩
 ·have h1 := (hm.obj b).1 hb2
  rw [hb.objs] at h1
  rcases h1 with q | q
  ·cases q
  ·exact List.mem_singleton.1 q
 ·obtain ⟨hj1,hw⟩ := vOf_get hj
  rw [if_neg (by omega)] at hw
  have hbd := hk.bounds hg.a
  have hlen := hg.a.len
  obtain ⟨v,hv⟩ : ∃ v,t.ws[(a + 1 + (j : Int)).toNat]? = some v := ⟨_,List.getElem?_eq_getElem (by omega)⟩
  have hl : Loaded t.R t.ws a j v 0 := .ok 4 10 v hk ⟨by omega,by omega⟩ hv
  rcases hm.dl a j v hl with ⟨_,q⟩ | q
  ·rw [q] at hl; rw [hw]; exact hl
  ·cases q with
   | ok k l _ hK _ _ => exact absurd hK.obj6 (hb.none a)
theorem Alone.stored {R : List Rw} {ws ws' : List Int} {a i x e z0 : Int} {z : List Int} (hA : AOk R ws) (h : Alone R ws a (vOf z i)) (hi : 0 ≤ i ∧ i < 10) (hz : z[i.toNat]? = some z0) (hx : x = z0.tmod 1000 * 2) (hs : Stored R ws a i x e ws') : Alone R ws' a (vOf z (i + 1)) := by
 obtain ⟨s1,s2⟩ := stored_to hA hs
 obtain ⟨_,o1,o2⟩ := stored_own hA h.k hi hs
 refine ⟨h.o,s1 _ _ _ h.k,fun j w hj => ?_⟩
 obtain ⟨hj1,hw⟩ := vOf_get hj
 by_cases e : (j : Int) = i
 ·have hjt : j = i.toNat := by omega
  rw [if_pos (by omega),hjt,hz] at hw
  dsimp only at hw
  rw [hw,← hx,e]; exact o1
 ·have hold : (vOf z i)[j]? = some w := by
   rw [vOf,List.getElem?_map,List.getElem?_range hj1,hw]
   show some _ = some _
   congr 1
   show (if (j : Int) < i then (match z[j]? with | some w => w.tmod 1000 * 2 | none => 0) else 0) = (if (j : Int) < i + 1 then (match z[j]? with | some w => w.tmod 1000 * 2 | none => 0) else 0)
   by_cases q : (j : Int) < i
   ·rw [if_pos q,if_pos (by omega)]
   ·rw [if_neg q,if_neg (by omega)]
  exact o2 j w e (h.v j w hold)
theorem Alone.keep {N : Int} {R : List Rw} {ws C G z : List Int} {ov : Bool} {sp cy a i : Int} (hg : Good N ⟨R,ws,C,G,ov,0,sp,cy⟩) (h : Alone R ws a (vOf z i)) : KeepI N ⟨R,ws,C,G,ov,0,sp,cy⟩ a (vOf z i) := by
 have hao : a ∈ objs R := (obj_iff hg.a a).2 h.k.obj6
 refine ⟨hg,fun b l x hk _ => ?_,⟨hao,fun q => absurd rfl q⟩,h.k,fun j w hj => ⟨h.v j w hj,vOf_even hj⟩⟩
 have hb := h.o b ((obj_iff hg.a b).2 hk.obj6)
 subst hb
 have := (hk.det9 h.k).1
 omega
theorem loaded_e {R : List Rw} {ws : List Int} {a i x y e : Int} (h : Loaded R ws a i x 0) (h' : Loaded R ws a i y e) : e = 0 ∧ y = x := by
 cases h with
 | ok k l _ hK hi hx =>
  cases h' with
  | ok k2 l2 _ hK2 hi2 hx2 => rw [hx] at hx2; exact ⟨rfl,(Option.some.inj hx2).symm⟩
  | none h => exact absurd hK.obj6 h
  | arg k2 l2 hK2 hi2 =>
   have := (hK2.det9 hK).2
   omega
end Go.Proofs.YtpbhcdbkmmjimaaGreatDoor
