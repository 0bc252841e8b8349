/-
  Rings by their places, while nothing is marked.
-/
import Derived.Test.YtjfdfbpgckilpaaGreatDoorBi
import Derived.Test.YtjfdfbpgckilpaaGreatDoorBh
namespace Go.Proofs.YtjfdfbpgckilpaaGreatDoor
open Go Go.LX
set_option maxRecDepth 100000
set_option linter.unusedVariables false
set_option linter.unusedSimpArgs false
set_option maxHeartbeats 32000000
theorem ringPutM {R : List Rw} {ws : List Int} {M : Hp} (hA : AOk R ws) (hM : Cont R ws M) {ph c w e cp cl k s b th tt sh st : Int} {c0 : List Int × List Int × Bool} {s' : St4} (hph : ph = 0) (hMc : M c = some (1,[cp,cl,k,s,b,th,tt,sh,st])) (hw : -9223372036854775808 ≤ w ∧ w ≤ 9223372036854775807) (hk : 0 ≤ k) (hs : 0 ≤ s) (h : RPut R ph c w (ws,c0) e s') : s'.2 = c0 ∧
  (cp ≤ 0 ∧ e = 9 ∧ s'.1 = ws ∨ ∀ X,M b = some (2,X) → (X.length : Int) = cp → (¬ k < cp ∧ e = 9 ∧ s'.1 = ws) ∨ (0 < cp ∧ k < cp ∧ e = 0 ∧ Cont R s'.1 (upd (upd M b (2,X.set ((s % cp + k) % cp).toNat w)) c (1,[cp,cl,k + 1,s,b,th,tt,sh,st])))) := by
 generalize hs0 : (ws,c0) = s0 at h
 have hKc := hM.kept hMc
 obtain ⟨hp,hb⟩ := hM.chan hA hMc
 cases h with
 | no hh => subst hs0; exact absurd hKc hh
 | full X0 y0 y1 y2 y3 y4 y5 y6 y7 y8 hh hX0 hy hf =>
  subst hs0
  refine ⟨rfl,?_⟩
  have hy2 : chanFs X0 = [cp,cl,k,s,b,th,tt,sh,st] := (hM.tr hMc rfl rfl (TR.ok X0 hh hX0)).2
  rw [hy2] at hy
  simp only [List.cons.injEq,and_true] at hy
  obtain ⟨rfl,rfl,rfl,rfl,rfl,rfl,rfl,rfl,rfl⟩ := hy
  by_cases q : y0 ≤ 0
  ·exact .inl ⟨q,rfl,rfl⟩
  ·refine .inr fun X hMb hX => .inl ⟨fun q2 => hf ⟨⟨by omega,?_⟩,by omega⟩,rfl,rfl⟩
   have := hM.kept hMb
   rw [hX] at this
   exact this
 | ok X0 y0 y1 y2 y3 y4 y5 y6 y7 y8 hh hX0 hy h0 hK hf f _ ws1 c1 _ hst hc hP =>
  subst hs0
  have hy2 : chanFs X0 = [cp,cl,k,s,b,th,tt,sh,st] := (hM.tr hMc rfl rfl (TR.ok X0 hh hX0)).2
  rw [hy2] at hy
  simp only [List.cons.injEq,and_true] at hy
  obtain ⟨rfl,rfl,rfl,rfl,rfl,rfl,rfl,rfl,rfl⟩ := hy
  have hc1 : c1 = c0 := hc.trans (storeS_idle hph _)
  have hP2 := hP.idle hph
  refine ⟨hP2.trans hc1,.inr fun X hMb hX => .inr ⟨h0,by omega,?_⟩⟩
  have e1 : max y3 0 = y3 := by omega
  have e2 : max y2 0 = y2 := by omega
  rw [e1,e2] at hst
  rw [e2] at hP
  have hA1 : AOk R ws1 := hA.stored hw hst
  have hi0 := Int.emod_nonneg (y3 % y0 + y2) (show y0 ≠ 0 by omega)
  have hi1 := Int.emod_lt_of_pos (y3 % y0 + y2) h0
  obtain ⟨_,hM1⟩ := hM.store hA hMb ⟨by decide,by decide,by decide⟩ ⟨hi0,by omega⟩ hw hst
  have hcb : c ≠ y4 := fun q => by rw [q,hMb] at hMc; cases hMc
  have hb' : ∀ x ∈ [y0,y1,y2 + 1,y3,y4,y5,y6,y7,y8],b62 x := by
   have hlen := hM.len hA hMb
   simp only [List.forall_mem_cons] at hb ⊢
   obtain ⟨q0,q1,q2,q3,q4,q5,q6,q7,q8,_⟩ := hb
   exact ⟨q0,q1,by unfold b62; omega,q3,q4,q5,q6,q7,q8,fun x hx => by cases hx⟩
  exact Cont.put (ph := ph) (F' := [y0,y1,y2 + 1,y3,y4,y5,y6,y7,y8]) hM1 hA1 ((upd_ne hcb).trans hMc) rfl rfl (FOk.chan hp) rfl (chanWs_bd _ _ _ _ _ _ _ _ _ hb') hP
theorem ringTakeM {R : List Rw} {ws : List Int} {M : Hp} (hA : AOk R ws) (hM : Cont R ws M) {ph c v e cp cl k s b th tt sh st : Int} {c0 : List Int × List Int × Bool} {s' : St4} (hph : ph = 0) (hMc : M c = some (1,[cp,cl,k,s,b,th,tt,sh,st])) (hs : 0 ≤ s) (h : RTake R ph c (ws,c0) v e s') : s'.2 = c0 ∧
  ((cp ≤ 0 ∨ k ≤ 0) ∧ e = 8 ∧ v = 0 ∧ s'.1 = ws ∨ ∀ X,M b = some (2,X) → (X.length : Int) = cp → k ≤ cp → (0 < cp ∧ 0 < k ∧ e = 0 ∧ X[(s % cp).toNat]? = some v ∧ Cont R s'.1 (upd (upd M b (2,X.set (s % cp).toNat 0)) c (1,[cp,cl,k - 1,(s % cp + 1) % cp,b,th,tt,sh,st])))) := by
 generalize hs0 : (ws,c0) = s0 at h
 have hKc := hM.kept hMc
 obtain ⟨hp,hb⟩ := hM.chan hA hMc
 cases h with
 | no hh => subst hs0; exact absurd hKc hh
 | none X0 y0 y1 y2 y3 y4 y5 y6 y7 y8 hh hX0 hy hf =>
  subst hs0
  refine ⟨rfl,?_⟩
  have hy2 : chanFs X0 = [cp,cl,k,s,b,th,tt,sh,st] := (hM.tr hMc rfl rfl (TR.ok X0 hh hX0)).2
  rw [hy2] at hy
  simp only [List.cons.injEq,and_true] at hy
  obtain ⟨rfl,rfl,rfl,rfl,rfl,rfl,rfl,rfl,rfl⟩ := hy
  by_cases q : y0 ≤ 0 ∨ y2 ≤ 0
  ·exact .inl ⟨q,rfl,rfl,rfl⟩
  ·refine .inr fun X hMb hX hkc => absurd ⟨⟨by omega,?_⟩,by omega⟩ hf
   have := hM.kept hMb
   rw [hX] at this
   exact this
 | ok X0 y0 y1 y2 y3 y4 y5 y6 y7 y8 hh hX0 hy h0 hK hf _ g f _ ws1 c1 _ hl hst hc hP =>
  subst hs0
  have hy2 : chanFs X0 = [cp,cl,k,s,b,th,tt,sh,st] := (hM.tr hMc rfl rfl (TR.ok X0 hh hX0)).2
  rw [hy2] at hy
  simp only [List.cons.injEq,and_true] at hy
  obtain ⟨rfl,rfl,rfl,rfl,rfl,rfl,rfl,rfl,rfl⟩ := hy
  have hc1 : c1 = c0 := hc.trans (storeS_idle hph _)
  have hP2 := hP.idle hph
  refine ⟨hP2.trans hc1,.inr fun X hMb hX hkc => ⟨h0,hf,?_⟩⟩
  have e1 : max y3 0 = y3 := by omega
  rw [e1] at hst hP hl
  have hw : -9223372036854775808 ≤ (0 : Int) ∧ (0 : Int) ≤ 9223372036854775807 := by decide
  have hA1 : AOk R ws1 := hA.stored hw hst
  have hi0 := Int.emod_nonneg y3 (show y0 ≠ 0 by omega)
  have hi1 := Int.emod_lt_of_pos y3 h0
  obtain ⟨yy,hyy⟩ : ∃ x,X[(y3 % y0).toNat]? = some x := ⟨_,List.getElem?_eq_getElem (by omega)⟩
  obtain ⟨hv,_⟩ := hM.load hMb ⟨by decide,by decide,by decide⟩ hi0 hyy hl
  obtain ⟨_,hM1⟩ := hM.store hA hMb ⟨by decide,by decide,by decide⟩ ⟨hi0,by omega⟩ hw hst
  have hcb : c ≠ y4 := fun q => by rw [q,hMb] at hMc; cases hMc
  have hlen := hM.len hA hMb
  have hn0 := Int.emod_nonneg (y3 % y0 + 1) (show y0 ≠ 0 by omega)
  have hn1 := Int.emod_lt_of_pos (y3 % y0 + 1) h0
  have hb' : ∀ x ∈ [y0,y1,y2 - 1,(y3 % y0 + 1) % y0,y4,y5,y6,y7,y8],b62 x := by
   simp only [List.forall_mem_cons] at hb ⊢
   obtain ⟨q0,q1,q2,q3,q4,q5,q6,q7,q8,_⟩ := hb
   exact ⟨q0,q1,by unfold b62; omega,by unfold b62; omega,q4,q5,q6,q7,q8,fun x hx => by cases hx⟩
  obtain ⟨g1,g2⟩ := Cont.put (ph := ph) (F' := [y0,y1,y2 - 1,(y3 % y0 + 1) % y0,y4,y5,y6,y7,y8]) hM1 hA1 ((upd_ne hcb).trans hMc) rfl rfl (FOk.chan hp) rfl (chanWs_bd _ _ _ _ _ _ _ _ _ hb') hP
  exact ⟨g1,by rw [hv]; exact hyy,g2⟩
end Go.Proofs.YtjfdfbpgckilpaaGreatDoor
