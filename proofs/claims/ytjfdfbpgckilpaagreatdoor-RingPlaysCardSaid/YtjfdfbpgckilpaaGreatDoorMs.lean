/-
  Put, Take and All of rings, by places, while nothing is marked.
-/
import Derived.Test.YtjfdfbpgckilpaaGreatDoorMr
namespace Go.Proofs.YtjfdfbpgckilpaaGreatDoor
open Go Go.LX
set_option maxRecDepth 100000
set_option linter.unusedVariables false
set_option linter.unusedSimpArgs false
set_option maxHeartbeats 32000000
theorem ringPutM_lx (R : List Rw) (ws C G : List Int) (N W ph sp cy : Int) (L D Q : List PV) (z : ByteArray) (ov : Bool) (h : HM R ws C G N W L D Q z) (M : Hp) (hM : Cont R ws M) (o : Unit → Obj) (ho : IsPow o) (hph : ph = 0) (c w cp cl k s b th tt sh st : Int) (hMc : M c = some (1,[cp,cl,k,s,b,th,tt,sh,st])) (hw : -9223372036854775808 ≤ w ∧ w ≤ 9223372036854775807) (hk : 0 ≤ k) (hs : 0 ≤ s) : CallF (fun _ => Tryz.prog) 32 [.ptr 0 (.lit 0),i6 c,i6 w] [hpA 0 1 5 6 3 W ph sp cy,hpB 1 2 4 3 W,hpC 2 3 179 2 N,hpP 3 L,hpP 4 D,hpF 5 z ov,hpP 6 Q,(7,.fix 0 o)] 8 (fun r h n => ∃ (e : Int) (ws' : List Int) (D' : List PV),r = .p (.int .i64 (.sym e)) ∧ h = [hpA 0 1 5 6 3 W ph sp cy,hpB 1 2 4 3 W,hpC 2 3 179 2 N,hpP 3 L,hpP 4 D',hpF 5 z ov,hpP 6 Q,(7,.fix 0 o)] ∧ n = 8 ∧ HM R ws' C G N W L D' Q z ∧
  (cp ≤ 0 ∧ e = 9 ∧ ws' = ws ∨ ∀ X,M b = some (2,X) → (X.length : Int) = cp → (¬ k < cp ∧ e = 9 ∧ ws' = ws) ∨ (0 < cp ∧ k < cp ∧ e = 0 ∧ Cont R ws' (upd (upd M b (2,X.set ((s % cp + k) % cp).toNat w)) c (1,[cp,cl,k + 1,s,b,th,tt,sh,st]))))) :=
 (ringPut_lx R ws C G N W ph sp cy L D Q z ov h o ho c w hw).mono fun r h' n hrr => by
  obtain ⟨e,ws',C',G',ov',D',Q',z',e1,e2,e3,h1,hP⟩ := hrr
  obtain ⟨g1,g2⟩ := ringPutM h.a hM hph hMc hw hk hs hP
  obtain ⟨q1,q2,q3,q4,q5⟩ := h.still h1 g1
  rw [q3,q4,q5] at e2
  rw [q1,q2,q4,q5] at h1
  exact ⟨e,ws',D',e1,e2,e3,h1,g2⟩
theorem ringTakeM_lx (R : List Rw) (ws C G : List Int) (N W ph sp cy : Int) (L D Q : List PV) (z : ByteArray) (ov : Bool) (h : HM R ws C G N W L D Q z) (M : Hp) (hM : Cont R ws M) (o : Unit → Obj) (ho : IsPow o) (hph : ph = 0) (c cp cl k s b th tt sh st : Int) (hMc : M c = some (1,[cp,cl,k,s,b,th,tt,sh,st])) (hs : 0 ≤ s) : CallF (fun _ => Tryz.prog) 27 [.ptr 0 (.lit 0),i6 c] [hpA 0 1 5 6 3 W ph sp cy,hpB 1 2 4 3 W,hpC 2 3 179 2 N,hpP 3 L,hpP 4 D,hpF 5 z ov,hpP 6 Q,(7,.fix 0 o)] 8 (fun r h n => ∃ (v e : Int) (ws' : List Int) (D' : List PV),r = .tup [i6 v,i6 e] ∧ h = [hpA 0 1 5 6 3 W ph sp cy,hpB 1 2 4 3 W,hpC 2 3 179 2 N,hpP 3 L,hpP 4 D',hpF 5 z ov,hpP 6 Q,(7,.fix 0 o)] ∧ n = 8 ∧ HM R ws' C G N W L D' Q z ∧
  ((cp ≤ 0 ∨ k ≤ 0) ∧ e = 8 ∧ v = 0 ∧ ws' = ws ∨ ∀ X,M b = some (2,X) → (X.length : Int) = cp → k ≤ cp → (0 < cp ∧ 0 < k ∧ e = 0 ∧ X[(s % cp).toNat]? = some v ∧ Cont R ws' (upd (upd M b (2,X.set (s % cp).toNat 0)) c (1,[cp,cl,k - 1,(s % cp + 1) % cp,b,th,tt,sh,st]))))) :=
 (ringTake_lx R ws C G N W ph sp cy L D Q z ov h o ho c).mono fun r h' n hrr => by
  obtain ⟨v,e,ws',C',G',ov',D',Q',z',e1,e2,e3,h1,hP⟩ := hrr
  obtain ⟨g1,g2⟩ := ringTakeM h.a hM hph hMc hs hP
  obtain ⟨q1,q2,q3,q4,q5⟩ := h.still h1 g1
  rw [q3,q4,q5] at e2
  rw [q1,q2,q4,q5] at h1
  exact ⟨v,e,ws',D',e1,e2,e3,h1,g2⟩
end Go.Proofs.YtjfdfbpgckilpaaGreatDoor
