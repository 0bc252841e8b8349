/-
  Layer 9: pairs of boxes, as HeapFinals lays them out.
-/
import Derived.Test.YtjfdfbpgckilpaaGreatDoorBh
import Derived.Test.YtjfdfbpgckilpaaGreatDoorBf
namespace Go.Proofs.YtjfdfbpgckilpaaGreatDoor
open Go Go.LX
set_option maxRecDepth 100000
set_option linter.unusedVariables false
set_option linter.unusedSimpArgs false
set_option maxHeartbeats 32000000
theorem alloctF_ld {R R' : List Rw} {ws ws' : List Int} {kind n a e : Int} (hA : AOk R ws) (h : Alloct R ws kind n a e R' ws') (he : e = 0) {x j y : Int} (hl : Loaded R ws x j y 0) : Loaded R' ws' x j y 0 := by
 obtain ⟨_,_,_,_,k5,_,k7⟩ := alloct_ok hA h he
 cases hl with
 | ok k l _ hK hi hx => exact .ok k l y (k5 _ _ _ hK) hi (by rw [k7 x k l j hK hi.1 hi.2]; exact hx)
structure Fp (R : List Rw) (ws : List Int) (B : List (Int × Int)) (l : List Int) : Prop where
 obj : ∀ x,x ∈ objs R ↔ x ∈ B.map Prod.fst ++ B.map Prod.snd
 nd : (B.map Prod.fst ++ B.map Prod.snd).Nodup
 k1 : ∀ p ∈ B,Kept R ws p.1 5 2
 k2 : ∀ p ∈ B,Kept R ws p.2 5 2
 a0 : ∀ p ∈ B,Loaded R ws p.1 0 (p.2 * 2 + 1) 0
 c0 : ∀ p ∈ B,Loaded R ws p.2 0 0 0
 c1 : ∀ p ∈ B,Loaded R ws p.2 1 0 0
 ly : ∀ p ∈ B,p.1 ∈ l → ∃ y,Loaded R ws p.1 1 y 0 ∧ y ≠ 0
 ln : ∀ p ∈ B,p.1 ∉ l → Loaded R ws p.1 1 0 0
 ls : ∀ x ∈ l,x ∈ B.map Prod.fst
 lnd : l.Nodup
theorem Fp.ne {R : List Rw} {ws : List Int} {B : List (Int × Int)} {l : List Int} (h : Fp R ws B l) {p q : Int × Int} (hp : p ∈ B) (hq : q ∈ B) : p.1 ≠ q.2 :=
 fun e => (List.nodup_append.1 h.nd).2.2 p.1 (List.mem_map.2 ⟨p,hp,rfl⟩) q.2 (List.mem_map.2 ⟨q,hq,rfl⟩) e
theorem Fp.count {R : List Rw} {ws : List Int} {B : List (Int × Int)} {l : List Int} (hA : AOk R ws) (h : Fp R ws B l) : objCount R = 2 * B.length := by
 have h1 : (objs R).Nodup := (objsTo_asc hA.rows _).imp fun q => by omega
 have h2 := ((List.perm_ext_iff_of_nodup h1 h.nd).2 h.obj).length_eq
 rw [List.length_append,List.length_map,List.length_map] at h2
 rw [← objs_length hA.rows]
 show (objs R).length = _
 omega
theorem Fp.new (n m : Nat) (hm : m = 32 * n) : Fp (List.replicate n (0,[])) (List.replicate m 0) [] [] := by
 subst hm
 exact ⟨fun x => ⟨fun h => absurd ((obj_iff (AOk.new n) x).1 h) (new_none n x),fun h => (by cases h)⟩,List.nodup_nil,fun p h => (by cases h),fun p h => (by cases h),fun p h => (by cases h),fun p h => (by cases h),fun p h => (by cases h),fun p h => (by cases h),fun p h => (by cases h),fun x h => (by cases h),List.nodup_nil⟩
theorem Fp.step {R R1 R2 : List Rw} {ws ws1 ws2 ws3 l : List Int} {B : List (Int × Int)} {b c e1 e2 e3 : Int} (hA : AOk R ws) (h : Fp R ws B l) (hr : 2 * B.length + 2 ≤ R.length) (hT1 : Alloct R ws 5 2 b e1 R1 ws1) (hT2 : Alloct R1 ws1 5 2 c e2 R2 ws2) (hS : Stored R2 ws2 b 0 (c * 2 + 1) e3 ws3) : Fp R2 ws3 (B ++ [(b,c)]) l ∧ b ∉ l ∧ Loaded R2 ws3 b 1 0 0 := by
 have hc := h.count hA
 have he1 : e1 = 0 := by have := alloct_err hA hT1 (by omega); rw [if_pos (by decide)] at this; exact this
 obtain ⟨kb1,nb,hc1,zb,kp1,ob1,wd1⟩ := alloct_ok hA hT1 he1
 obtain ⟨hA1,hl1⟩ := AOk.alloct hA hT1
 have he2 : e2 = 0 := by have := alloct_err hA1 hT2 (by omega); rw [if_pos (by decide)] at this; exact this
 obtain ⟨kc2,nc,_,zc,kp2,ob2,wd2⟩ := alloct_ok hA1 hT2 he2
 obtain ⟨hA2,_⟩ := AOk.alloct hA1 hT2
 have kb2 := kp2 _ _ _ kb1
 obtain ⟨kp3,ot3⟩ := stored_to hA2 hS
 obtain ⟨_,bi3,own3⟩ := stored_own hA2 kb2 ⟨by omega,by omega⟩ hS
 have hbc : b ≠ c := fun q => nc (by rw [← q]; exact kb1.obj6)
 have hin : ∀ x,x ∈ B.map Prod.fst ++ B.map Prod.snd → x ≠ b ∧ x ≠ c := by
  intro x hx
  have hox := (obj_iff hA x).1 ((h.obj x).2 hx)
  refine ⟨fun q => nb (by rw [← q]; exact hox),fun q => nc ?_⟩
  obtain ⟨k,m,hk⟩ := Kept.of hA hox
  rw [← q]; exact (kp1 _ _ _ hk).obj6
 have hf : ∀ p ∈ B,p.1 ≠ b ∧ p.1 ≠ c := fun p hp => hin _ (List.mem_append_left _ (List.mem_map.2 ⟨p,hp,rfl⟩))
 have hs : ∀ p ∈ B,p.2 ≠ b ∧ p.2 ≠ c := fun p hp => hin _ (List.mem_append_right _ (List.mem_map.2 ⟨p,hp,rfl⟩))
 have ld : ∀ x j y,x ≠ b → Loaded R ws x j y 0 → Loaded R2 ws3 x j y 0 := fun x j y hx hl => ot3 x j y hx (alloctF_ld hA1 hT2 he2 (alloctF_ld hA hT1 he1 hl))
 have kp : ∀ x k m,Kept R ws x k m → Kept R2 ws3 x k m := fun x k m hk => kp3 _ _ _ (kp2 _ _ _ (kp1 _ _ _ hk))
 have hbl : b ∉ l := fun q => (hin b (List.mem_append_left _ (h.ls b q))).1 rfl
 have b1 : Loaded R2 ws3 b 1 0 0 := by
  have h1 : Loaded R1 ws1 b 1 0 0 := .ok 5 2 0 kb1 ⟨by omega,by omega⟩ (zb 1 (by omega) (by omega))
  exact own3 1 0 (by omega) (alloctF_ld hA1 hT2 he2 h1)
 have c00 : Loaded R2 ws3 c 0 0 0 := ot3 c 0 0 (fun q => hbc q.symm) (.ok 5 2 0 kc2 ⟨by omega,by omega⟩ (zc 0 (by omega) (by omega)))
 have c10 : Loaded R2 ws3 c 1 0 0 := ot3 c 1 0 (fun q => hbc q.symm) (.ok 5 2 0 kc2 ⟨by omega,by omega⟩ (zc 1 (by omega) (by omega)))
 refine ⟨⟨fun x => ?_,?_,fun p hp => ?_,fun p hp => ?_,fun p hp => ?_,fun p hp => ?_,fun p hp => ?_,fun p hp hpl => ?_,fun p hp hpl => ?_,fun x hx => ?_,h.lnd⟩,hbl,b1⟩
 ·rw [obj_iff hA2,List.map_append,List.map_append]
  have hob := h.obj x
  rw [obj_iff hA] at hob
  simp only [List.mem_append,List.map_cons,List.map_nil,List.mem_singleton] at hob ⊢
  constructor
  ·intro hx
   rcases ob2 x hx with q | q
   ·exact .inr (.inr q)
   ·rcases ob1 x q with q2 | q2
    ·exact .inl (.inr q2)
    ·rcases hob.1 q2 with w | w
     ·exact .inl (.inl w)
     ·exact .inr (.inl w)
  ·have old : IsObj R x → IsObj R2 x := fun q => by
    obtain ⟨k,m,hk⟩ := Kept.of hA q
    exact (kp2 _ _ _ (kp1 _ _ _ hk)).obj6
   rintro ((q | q) | (q | q))
   ·exact old (hob.2 (.inl q))
   ·rw [q]; exact kb2.obj6
   ·exact old (hob.2 (.inr q))
   ·rw [q]; exact kc2.obj6
 ·have hnd := List.nodup_append.1 h.nd
  rw [List.map_append,List.map_append]
  refine List.nodup_append.2 ⟨List.nodup_append.2 ⟨hnd.1,by simp,fun x hx y hy => ?_⟩,List.nodup_append.2 ⟨hnd.2.1,by simp,fun x hx y hy => ?_⟩,fun x hx y hy => ?_⟩
  ·have hy : y = b := by simpa using hy
   rw [hy]; exact (hin x (List.mem_append_left _ hx)).1
  ·have hy : y = c := by simpa using hy
   rw [hy]; exact (hin x (List.mem_append_right _ hx)).2
  ·rcases List.mem_append.1 hx with hx | hx
   ·rcases List.mem_append.1 hy with hy | hy
    ·exact hnd.2.2 x hx y hy
    ·have hy : y = c := by simpa using hy
     rw [hy]; exact (hin x (List.mem_append_left _ hx)).2
   ·have hx : x = b := by simpa using hx
    rw [hx]
    rcases List.mem_append.1 hy with hy | hy
    ·exact fun q => (hin y (List.mem_append_right _ hy)).1 q.symm
    ·have hy : y = c := by simpa using hy
     rw [hy]; exact hbc
 ·rcases List.mem_append.1 hp with hp | hp
  ·exact kp _ _ _ (h.k1 p hp)
  ·rw [List.mem_singleton.1 hp]; exact kp3 _ _ _ kb2
 ·rcases List.mem_append.1 hp with hp | hp
  ·exact kp _ _ _ (h.k2 p hp)
  ·rw [List.mem_singleton.1 hp]; exact kp3 _ _ _ kc2
 ·rcases List.mem_append.1 hp with hp | hp
  ·exact ld _ _ _ (hf p hp).1 (h.a0 p hp)
  ·rw [List.mem_singleton.1 hp]; exact bi3
 ·rcases List.mem_append.1 hp with hp | hp
  ·exact ld _ _ _ (hs p hp).1 (h.c0 p hp)
  ·rw [List.mem_singleton.1 hp]; exact c00
 ·rcases List.mem_append.1 hp with hp | hp
  ·exact ld _ _ _ (hs p hp).1 (h.c1 p hp)
  ·rw [List.mem_singleton.1 hp]; exact c10
 ·rcases List.mem_append.1 hp with hp | hp
  ·obtain ⟨y,h1,h2⟩ := h.ly p hp hpl
   exact ⟨y,ld _ _ _ (hf p hp).1 h1,h2⟩
  ·rw [List.mem_singleton.1 hp] at hpl; exact absurd hpl hbl
 ·rcases List.mem_append.1 hp with hp | hp
  ·exact ld _ _ _ (hf p hp).1 (h.ln p hp hpl)
  ·rw [List.mem_singleton.1 hp]; exact b1
 ·rw [List.map_append]; exact List.mem_append_left _ (h.ls x hx)
theorem Fp.said {R : List Rw} {ws ws' l : List Int} {B : List (Int × Int)} {b c y e : Int} (hA : AOk R ws) (h : Fp R ws (B ++ [(b,c)]) l) (hb : b ∉ l) (hy : y ≠ 0) (hS : Stored R ws b 1 y e ws') : Fp R ws' (B ++ [(b,c)]) (l ++ [b]) := by
 have hm : (b,c) ∈ B ++ [(b,c)] := List.mem_append_right _ (List.mem_singleton.2 rfl)
 obtain ⟨kp,ot⟩ := stored_to hA hS
 obtain ⟨_,bi,own⟩ := stored_own hA (h.k1 _ hm) ⟨by omega,by omega⟩ hS
 have l0 : ∀ x y,Loaded R ws x 0 y 0 → Loaded R ws' x 0 y 0 := fun x y hl => by
  by_cases e : x = b
  ·subst e; exact own 0 y (by omega) hl
  ·exact ot x 0 y e hl
 refine ⟨h.obj,h.nd,fun p hp => kp _ _ _ (h.k1 p hp),fun p hp => kp _ _ _ (h.k2 p hp),fun p hp => l0 _ _ (h.a0 p hp),fun p hp => l0 _ _ (h.c0 p hp),fun p hp => ot _ _ _ (fun q => h.ne hm hp q.symm) (h.c1 p hp),fun p hp hpl => ?_,fun p hp hpl => ?_,fun x hx => ?_,?_⟩
 ·by_cases e : p.1 = b
  ·rw [e]; exact ⟨y,bi,hy⟩
  ·rcases List.mem_append.1 hpl with q | q
   ·obtain ⟨z,h1,h2⟩ := h.ly p hp q
    exact ⟨z,ot _ _ _ e h1,h2⟩
   ·exact absurd (List.mem_singleton.1 q) e
 ·have e : p.1 ≠ b := fun q => hpl (by rw [q]; exact List.mem_append_right _ (List.mem_singleton.2 rfl))
  exact ot _ _ _ e (h.ln p hp (fun q => hpl (List.mem_append_left _ q)))
 ·rcases List.mem_append.1 hx with q | q
  ·exact h.ls x q
  ·rw [List.mem_singleton.1 q]; exact List.mem_map.2 ⟨_,hm,rfl⟩
 ·exact List.nodup_append.2 ⟨h.lnd,by simp,fun x hx y hy q => hb (by rw [← List.mem_singleton.1 hy,← q]; exact hx)⟩
theorem Fp.kl {R : List Rw} {ws ws' l K : List Int} {B : List (Int × Int)} {out : List Gn} (h : Fp R ws B l) (hA : AOk R ws) (hr : Run R ws ws' K out) {x : Int} (hx : x ∈ K) : x ∈ l := by
 obtain ⟨_,⟨m,hk⟩,y,hy,hy0⟩ := hr.wk x hx
 have hob := (h.obj x).1 ((obj_iff hA x).2 hk.obj6)
 rcases List.mem_append.1 hob with q | q
 ·obtain ⟨p,hp,rfl⟩ := List.mem_map.1 q
  exact Classical.byContradiction fun hn => hy0 (loadedF_det hy (h.ln p hp hn))
 ·obtain ⟨p,hp,rfl⟩ := List.mem_map.1 q
  exact absurd (loadedF_det hy (h.c1 p hp)) hy0
theorem Fp.snd_no {R : List Rw} {ws l : List Int} {B : List (Int × Int)} (h : Fp R ws B l) {p : Int × Int} (hp : p ∈ B) : p.2 ∉ l := fun q => by
 obtain ⟨r,hr,e⟩ := List.mem_map.1 (h.ls _ q)
 exact h.ne hr hp e
theorem two_words {R : List Rw} {ws : List Int} {a j w : Int} (hk : Kept R ws a 5 2) (hl : Loaded R ws a j w 0) : j = 0 ∨ j = 1 := by
 cases hl with
 | ok k l _ hK hi hx => have := (hK.det9 hk).2; omega
theorem Fp.rchK {R : List Rw} {ws ws' l K : List Int} {B : List (Int × Int)} {out : List Gn} (h : Fp R ws B l) (hA : AOk R ws) (hr : Run R ws ws' K out) {x : Int} (hx : Rch R ws' K x) : x ∈ K ∨ ∃ q ∈ B,q.1 ∈ K ∧ x = q.2 := by
 induction hx with
 | root a ha ho => exact .inl ha
 | next a b _ hl ih =>
  obtain ⟨j,w,hld,h1,h2,h3⟩ := hl
  rcases ih with ha | ⟨q,hq,hqk,rfl⟩
  ·obtain ⟨p,hp,rfl⟩ := List.mem_map.1 (h.ls _ (h.kl hA hr ha))
   rcases two_words (hr.ke _ _ _ (h.k1 p hp)) hld with rfl | rfl
   ·have := loadedF_det hld (hr.w0 _ 0 _ (by omega) (h.a0 p hp))
    exact .inr ⟨p,hp,ha,by omega⟩
   ·have := loadedF_det hld (hr.wk _ ha).1
    omega
  ·rcases two_words (hr.ke _ _ _ (h.k2 q hq)) hld with rfl | rfl
   ·have := loadedF_det hld (hr.w0 _ 0 _ (by omega) (h.c0 q hq)); omega
   ·have := loadedF_det hld (hr.w1 _ _ (fun k => h.snd_no hq (h.kl hA hr k)) (h.c1 q hq)); omega
theorem Fp.trip {R R' : List Rw} {ws ws' l A K X C : List Int} {B : List (Int × Int)} {out : List Gn} {N : Int} (hA : AOk R ws) (h : Fp R ws B l) (hN : N = R.length) (hc : Cy2 R R' ws' C (A ++ K) (32 * N) X) (hr : Run R ws ws' K out) (hcase : A = [] ∨ l = []) :
  (∀ x,x ∈ K ↔ x ∈ l) ∧ ∀ x,x ∈ objs R' ↔ x ∈ objs R ∧ Rch R ws' (A ++ K) x := by
 refine ⟨fun x => ⟨fun hx => h.kl hA hr hx,fun hx => ?_⟩,fun x => ?_⟩
 ·rcases hcase with rfl | rfl
  ·refine Classical.byContradiction fun hn => ?_
   obtain ⟨p,hp,e⟩ := List.mem_map.1 (h.ls x hx)
   subst e
   obtain ⟨y,hy,hy0⟩ := h.ly p hp hx
   have hld := hr.w1 _ y hn hy
   have hox : p.1 ∈ objs R := (h.obj _).2 (List.mem_append_left _ (List.mem_map.2 ⟨p,hp,rfl⟩))
   have hC : C[p.1.toNat]? ≠ some 0 := fun q => hc.done.due p.1 ⟨⟨2,hr.ke _ _ _ (h.k1 p hp)⟩,q,y,hld,hy0⟩
   have hrch : Rch R ws' K p.1 := Classical.byContradiction fun q => hC ((hc.done.iff _ hox).2 q)
   rcases h.rchK hA hr hrch with q | ⟨r,hr2,_,e⟩
   ·exact hn q
   ·exact h.ne hp hr2 e
  ·cases hx
 ·rw [hc.rest,hc.go]
  constructor
  ·rintro ⟨h1,h2⟩
   refine ⟨h1,Classical.byContradiction fun q => h2 ⟨h1,(hc.done.iff x h1).2 q,?_⟩⟩
   have := obj_bd hA h1; omega
  ·rintro ⟨h1,h2⟩
   exact ⟨h1,fun ⟨_,q,_⟩ => (hc.done.iff x h1).1 q h2⟩
theorem Fp.sub {R R' : List Rw} {ws ws' l K : List Int} {B B' : List (Int × Int)} {out : List Gn} (hA' : AOk R' ws') (h : Fp R ws B l) (hr : Run R ws ws' K out) (hK : ∀ x,x ∈ K ↔ x ∈ l) (hB : List.Sublist B' B) (hob : ∀ x,x ∈ objs R' ↔ x ∈ B'.map Prod.fst ++ B'.map Prod.snd) (hkb : ∀ x k m,Kept R' ws' x k m → Kept R ws' x k m) : Fp R' ws' B' [] := by
 have kb : ∀ x k m,x ∈ objs R' → Kept R ws' x k m → Kept R' ws' x k m := by
  intro x k m hx hk
  obtain ⟨k',m',h2⟩ := Kept.of hA' ((obj_iff hA' x).1 hx)
  obtain ⟨e1,e2⟩ := (hkb _ _ _ h2).det9 hk
  subst e1 e2; exact h2
 have ld : ∀ x j y,x ∈ objs R' → Loaded R ws' x j y 0 → Loaded R' ws' x j y 0 := by
  intro x j y hx hl
  cases hl with
  | ok k m _ hk hi hw => exact .ok k m y (kb x k m hx hk) hi hw
 have o1 : ∀ p ∈ B',p.1 ∈ objs R' := fun p hp => (hob _).2 (List.mem_append_left _ (List.mem_map.2 ⟨p,hp,rfl⟩))
 have o2 : ∀ p ∈ B',p.2 ∈ objs R' := fun p hp => (hob _).2 (List.mem_append_right _ (List.mem_map.2 ⟨p,hp,rfl⟩))
 refine ⟨hob,h.nd.sublist ((hB.map _).append (hB.map _)),fun p hp => kb _ _ _ (o1 p hp) (hr.ke _ _ _ (h.k1 p (hB.subset hp))),fun p hp => kb _ _ _ (o2 p hp) (hr.ke _ _ _ (h.k2 p (hB.subset hp))),fun p hp => ld _ _ _ (o1 p hp) (hr.w0 _ _ _ (by omega) (h.a0 p (hB.subset hp))),fun p hp => ld _ _ _ (o2 p hp) (hr.w0 _ _ _ (by omega) (h.c0 p (hB.subset hp))),fun p hp => ld _ _ _ (o2 p hp) (hr.w1 _ _ (fun q => h.snd_no (hB.subset hp) ((hK _).1 q)) (h.c1 p (hB.subset hp))),fun p hp hl => (by cases hl),fun p hp _ => ld _ _ _ (o1 p hp) ?_,fun x hx => (by cases hx),List.nodup_nil⟩
 by_cases e : p.1 ∈ l
 ·exact (hr.wk _ ((hK _).2 e)).1
 ·exact hr.w1 _ _ (fun q => e ((hK _).1 q)) (h.ln p (hB.subset hp) e)
theorem Fp.lead {R : List Rw} {ws ws' l K : List Int} {B : List (Int × Int)} {out : List Gn} (h : Fp R ws B l) (hr : Run R ws ws' K out) {p : Int × Int} (hp : p ∈ B) : Leads R ws' p.1 p.2 :=
 ⟨0,p.2 * 2 + 1,hr.w0 _ _ _ (by omega) (h.a0 p hp),by omega,by omega,(h.obj _).2 (List.mem_append_right _ (List.mem_map.2 ⟨p,hp,rfl⟩))⟩
theorem Fp.fst_in {R : List Rw} {ws l : List Int} {B : List (Int × Int)} (h : Fp R ws B l) {p : Int × Int} (hp : p ∈ B) : p.1 ∈ objs R := (h.obj _).2 (List.mem_append_left _ (List.mem_map.2 ⟨p,hp,rfl⟩))
theorem Fp.cyc0 {R R' : List Rw} {ws ws' l K X C : List Int} {B : List (Int × Int)} {out : List Gn} {N : Int} (hA : AOk R ws) (hA' : AOk R' ws') (h : Fp R ws B l) (hN : N = R.length) (hc : Cy2 R R' ws' C ([] ++ K) (32 * N) X) (hr : Run R ws ws' K out) :
  (∀ x,x ∈ K ↔ x ∈ l) ∧ K.length = l.length ∧ ∃ B',Fp R' ws' B' [] ∧ B'.length = l.length ∧ ∀ p ∈ B',p.1 ∈ l := by
 obtain ⟨hK,ho⟩ := h.trip hA hN hc hr (.inl rfl)
 refine ⟨hK,((List.perm_ext_iff_of_nodup hr.nd h.lnd).2 hK).length_eq,B.filter (fun p => decide (p.1 ∈ l)),h.sub hA' hr hK List.filter_sublist (fun x => ?_) hc.kept,?_,fun p hp => by simpa using (List.mem_filter.1 hp).2⟩
 ·rw [ho,List.nil_append,List.mem_append]
  constructor
  ·rintro ⟨_,h2⟩
   rcases h.rchK hA hr h2 with q | ⟨r,hr2,hrk,rfl⟩
   ·obtain ⟨p,hp,rfl⟩ := List.mem_map.1 (h.ls _ ((hK _).1 q))
    exact .inl (List.mem_map.2 ⟨p,List.mem_filter.2 ⟨hp,decide_eq_true ((hK _).1 q)⟩,rfl⟩)
   ·exact .inr (List.mem_map.2 ⟨r,List.mem_filter.2 ⟨hr2,decide_eq_true ((hK _).1 hrk)⟩,rfl⟩)
  ·rintro (q | q)
   ·obtain ⟨p,hp,rfl⟩ := List.mem_map.1 q
    obtain ⟨hp,hpl⟩ := List.mem_filter.1 hp
    have hpl : p.1 ∈ l := by simpa using hpl
    exact ⟨h.fst_in hp,.root _ ((hK _).2 hpl) (h.fst_in hp)⟩
   ·obtain ⟨p,hp,rfl⟩ := List.mem_map.1 q
    obtain ⟨hp,hpl⟩ := List.mem_filter.1 hp
    have hpl : p.1 ∈ l := by simpa using hpl
    have hle := h.lead hr hp
    obtain ⟨_,_,_,_,_,hob⟩ := id hle
    exact ⟨hob,.next _ _ (.root _ ((hK _).2 hpl) (h.fst_in hp)) hle⟩
 ·have hnd : ((B.filter (fun p => decide (p.1 ∈ l))).map Prod.fst).Nodup := (List.nodup_append.1 h.nd).1.sublist (List.filter_sublist.map _)
  have hm : ∀ x,x ∈ (B.filter (fun p => decide (p.1 ∈ l))).map Prod.fst ↔ x ∈ l := by
   intro x
   constructor
   ·intro q
    obtain ⟨p,hp,rfl⟩ := List.mem_map.1 q
    simpa using (List.mem_filter.1 hp).2
   ·intro q
    obtain ⟨p,hp,rfl⟩ := List.mem_map.1 (h.ls x q)
    exact List.mem_map.2 ⟨p,List.mem_filter.2 ⟨hp,decide_eq_true q⟩,rfl⟩
  have := ((List.perm_ext_iff_of_nodup hnd h.lnd).2 hm).length_eq
  rwa [List.length_map] at this
theorem Fp.cycA {R R' : List Rw} {ws ws' A K X C : List Int} {B : List (Int × Int)} {out : List Gn} {N : Int} (hA : AOk R ws) (hA' : AOk R' ws') (h : Fp R ws B []) (hN : N = R.length) (hc : Cy2 R R' ws' C (A ++ K) (32 * N) X) (hr : Run R ws ws' K out) (hr2 : ∀ p ∈ B,p.1 ∈ A) :
  K = [] ∧ Fp R' ws' B [] := by
 obtain ⟨hK,ho⟩ := h.trip hA hN hc hr (.inr rfl)
 refine ⟨List.eq_nil_iff_forall_not_mem.2 fun x hx => (by cases (hK x).1 hx),h.sub hA' hr hK (List.Sublist.refl _) (fun x => ?_) hc.kept⟩
 rw [ho,← h.obj]
 refine ⟨fun q => q.1,fun q => ⟨q,?_⟩⟩
 have hob := (h.obj x).1 q
 rcases List.mem_append.1 hob with w | w
 ·obtain ⟨p,hp,rfl⟩ := List.mem_map.1 w
  exact .root _ (List.mem_append_left _ (hr2 p hp)) q
 ·obtain ⟨p,hp,rfl⟩ := List.mem_map.1 w
  exact .next _ _ (.root _ (List.mem_append_left _ (hr2 p hp)) (h.fst_in hp)) (h.lead hr hp)
theorem Fp.told {R : List Rw} {ws ws' l K : List Int} {B : List (Int × Int)} {out : List Gn} (hA : AOk R ws) (h : Fp R ws B l) (hr : Run R ws ws' K out) {g : Gn} (hg : g ∈ out) (ht : g.2.2.2 = true) : g.2.1 ∈ l ∧ ∃ y0 y1,g.2.2.1 = [y0,y1] ∧ y0 % 2 = 1 ∧ y1 ≠ 0 := by
 obtain ⟨hk,m,hm,hlen,hw⟩ := hr.ou g hg ht
 have hl := h.kl hA hr hk
 refine ⟨hl,?_⟩
 obtain ⟨p,hp,e⟩ := List.mem_map.1 (h.ls _ hl)
 rw [← e] at hm hw
 have hm2 := (hm.det9 (h.k1 p hp)).2
 subst hm2
 obtain ⟨gk,ga,Y,gb⟩ := g
 have hlen : (Y.length : Int) = 2 := hlen
 match Y,hlen with
 | [y0,y1],_ =>
  refine ⟨y0,y1,rfl,?_,(hw 1 y1 rfl).2 rfl⟩
  have := loadedF_det ((hw 0 y0 rfl).1 (by decide)) (h.a0 p hp)
  omega
end Go.Proofs.YtjfdfbpgckilpaaGreatDoor
