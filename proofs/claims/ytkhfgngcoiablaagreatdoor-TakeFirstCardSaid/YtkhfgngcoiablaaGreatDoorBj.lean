/-
  The ground of the proof, part 10: the calculus and what is proved with it.
-/
import Derived.Test.YtkhfgngcoiablaaGreatDoorBi
namespace Go.Proofs.YtkhfgngcoiablaaGreatDoor
open Go Go.LX
set_option maxRecDepth 100000
set_option linter.unusedVariables false
set_option linter.unusedSimpArgs false
set_option maxHeartbeats 32000000
theorem takeMoved_lx (R : List Rw) (ws C G : List Int) (N W ph sp cy : Int) (L D Q : List PV) (z : ByteArray) (ov : Bool) (h : HM R ws C G N W L D Q z) (M : Hp) (hM : Cont R ws M) (q : Qs) (hY : Sys M q) (o : Unit → Obj) (ho : IsPow o) (hph : ph = 0) (w : Int) (hw : (-9223372036854775808 ≤ w ∧ w ≤ 9223372036854775807)) (h0 : w ≠ 0) (a y0 y1 y2 y3 y4 y5 y6 y7 y8 : Int) (ha : atW w = a) (hMa : M a = some (1,[y0,y1,y2,y3,y4,y5,y6,y7,y8])) (s : Int) (g wv n p r_ m_ x0 x1 x2 x3 x4 x5 x6 x7 x8 x9 : Int) (l : List Int) (hMs : M s = some (3,[g,a,wv,n,p,r_,m_])) (hMg : M g = some (4,[x0,x1,x2,x3,x4,x5,x6,x7,x8,x9])) (hl : Mor M x9 l) (hnd : l.Nodup) (hsl : s ∈ l) (Bq : List Int) (hq : q a true = s :: Bq) (hs0 : 0 ≤ y3) (X : List Int) (hMb : M y4 = some (2,X)) (hX : (X.length : Int) = y0) (hk : 0 < y2 ∧ y2 ≤ y0) (M1 : Hp) (hM1 : M1 = upd (upd M y4 (2,X.set (y3 % y0).toNat 0)) a (1,[y0,y1,y2 - 1,(y3 % y0 + 1) % y0,y4,y5,y6,y7,y8])) : CallF (fun _ => Tryz.prog) 27 [.ptr 0 (.lit 0),i6 w] [hpA 0 1 5 6 3 W ph sp cy,hpB 1 2 4 3 W,hpC 2 3 233 2 N,hpP 3 L,hpP 4 D,hpF 5 z ov,hpP 6 Q,(7,.fix 0 o)] 8 (fun r h n => ∃ (v : Int) (ws' : List Int) (D' : List PV),r = .tup [i6 v,i6 g,i6 1] ∧ h = [hpA 0 1 5 6 3 W ph sp cy,hpB 1 2 4 3 W,hpC 2 3 233 2 N,hpP 3 L,hpP 4 D',hpF 5 z ov,hpP 6 Q,(7,.fix 0 o)] ∧ n = 8 ∧ HM R ws' C G N W L D' Q z ∧ X[(y3 % y0).toNat]? = some v ∧ Cont R ws' (upd (relink (upd (upd (relink M1 (updQ q a true Bq)) y4 (2,(X.set (y3 % y0).toNat 0).set (((y3 % y0 + 1) % y0 % y0 + (y2 - 1)) % y0).toNat wv)) a (1,[y0,y1,y2 - 1 + 1,(y3 % y0 + 1) % y0,y4,hdQ (updQ q a true Bq a false),ltQ (updQ q a true Bq a false),hdQ (updQ q a true Bq a true),ltQ (updQ q a true Bq a true)])) (rmQ q l)) g (4,[x0,0,p] ++ setR r_ 0 [x3,x4,x5,x6,x7,x8] ++ [-1]))) := by
 refine callF_of_body tok Tryz.func27 (by kernel_rfl) rfl rfl rfl ?_; conv => cbv
 refine cfr (see_is_lx R ws C G N W ph sp cy L D Q z ov h M hM w a y0 y1 y2 y3 y4 y5 y6 y7 y8 hw h0 ha hMa) [(0,0),(1,1),(2,2),(3,3),(4,4),(5,5),(6,6)] (fun r h' n' ⟨e1,e2,e3⟩ => ?_)
 subst e1 e2 e3
 conv => cbv
 refine cfr (ringTakeM_lx R ws C G N W ph sp cy L D Q z ov h M hM o ho hph a y0 y1 y2 y3 y4 y5 y6 y7 y8 hMa hs0) iM8 (fun r h' n' hrr => ?_)
 obtain ⟨v,e,ws',D',e1,e2,e3,h1,hres⟩ := hrr
 subst e1 e2 e3
 conv => cbv
 have hr2 : e = 0 ∧ X[(y3 % y0).toNat]? = some v ∧ Cont R ws' (upd (upd M y4 (2,X.set (y3 % y0).toNat 0)) a (1,[y0,y1,y2 - 1,(y3 % y0 + 1) % y0,y4,y5,y6,y7,y8])) := by
  rcases hres with ⟨q1,_⟩ | q1
  ·omega
  ·obtain ⟨_,_,q3,q4,q5⟩ := q1 X hMb hX hk.2
   exact ⟨q3,q4,q5⟩
 refine Br.yes (show e = 0 from hr2.1) ?_
 conv => cbv
 have hab : a ≠ y4 := fun e => by rw [e,hMb] at hMa; cases hMa
 have hsa : s ≠ a := fun e => by rw [e,hMa] at hMs; cases hMs
 have hsb : s ≠ y4 := fun e => by rw [e,hMb] at hMs; cases hMs
 have hga : g ≠ a := fun e => by rw [e,hMa] at hMg; cases hMg
 have hgb : g ≠ y4 := fun e => by rw [e,hMb] at hMg; cases hMg
 have hY1 := sysRing (X' := X.set (y3 % y0).toNat 0) hY hMa hMb (y2 - 1) ((y3 % y0 + 1) % y0)
 have c1 := hr2.2.2
 rw [← hM1] at hY1 c1
 have hMa1 : M1 a = some (1,[y0,y1,y2 - 1,(y3 % y0 + 1) % y0,y4,y5,y6,y7,y8]) := by rw [hM1]; exact upd_same _ _ _
 have hMb1 : M1 y4 = some (2,X.set (y3 % y0).toNat 0) := by rw [hM1,upd_ne hab.symm]; exact upd_same _ _ _
 have hMs1 : M1 s = some (3,[g,a,wv,n,p,r_,m_]) := by rw [hM1,upd_ne hsa,upd_ne hsb]; exact hMs
 have hMg1 : M1 g = some (4,[x0,x1,x2,x3,x4,x5,x6,x7,x8,x9]) := by rw [hM1,upd_ne hga,upd_ne hgb]; exact hMg
 have hl1 : Mor M1 x9 l := by
  rw [hM1]
  exact morUpd ((upd_ne hab).trans hMa) (by decide) (morUpd hMb (by decide) hl)
 have hs1 : 0 ≤ (y3 % y0 + 1) % y0 := Int.emod_nonneg _ (by omega)
 refine cfr (takeRefill_lx R ws' C G N W ph sp cy L D' Q z ov h1 M1 c1 q hY1 o ho hph a y0 y1 (y2 - 1) ((y3 % y0 + 1) % y0) y4 y5 y6 y7 y8 hMa1 s g wv n p r_ m_ x0 x1 x2 x3 x4 x5 x6 x7 x8 x9 l hMs1 hMg1 hl1 hnd hsl Bq hq (by omega) hs1 (X.set (y3 % y0).toNat 0) hMb1 (by rw [List.length_set]; exact hX) (by omega)) iM8 (fun r h' n' hrr => ?_)
 obtain ⟨ws2,D2,e1,e2,e3,h2,c2⟩ := hrr
 subst e1 e2 e3
 conv => cbv
 refine RetF.mk [i6 v,i6 g,i6 1] [hpA 0 1 5 6 3 W ph sp cy,hpB 1 2 4 3 W,hpC 2 3 233 2 N,hpP 3 L,hpP 4 D2,hpF 5 z ov,hpP 6 Q,(7,.fix 0 o)] 8 (Re.at [(0,0),(1,1),(2,2),(3,3),(4,4),(5,5),(6,6),(7,7)] []) rfl ⟨v,ws2,D2,rfl,rfl,rfl,h2,hr2.2.1,c2⟩
theorem takeMovedA_lx (R : List Rw) (ws C G : List Int) (N W ph sp cy : Int) (L D Q : List PV) (z : ByteArray) (ov : Bool) (h : HM R ws C G N W L D Q z) (M : Hp) (hM : Cont R ws M) (q : Qs) (hY : Sys M q) (o : Unit → Obj) (ho : IsPow o) (hph : ph = 0) (w : Int) (hw : (-9223372036854775808 ≤ w ∧ w ≤ 9223372036854775807)) (h0 : w ≠ 0) (a y0 y1 y2 y3 y4 y5 y6 y7 y8 : Int) (ha : atW w = a) (hMa : M a = some (1,[y0,y1,y2,y3,y4,y5,y6,y7,y8])) (s : Int) (g wv n p r_ m_ x0 x1 x2 x3 x4 x5 x6 x7 x8 x9 : Int) (l : List Int) (hMs : M s = some (3,[g,a,wv,n,p,r_,m_])) (hMg : M g = some (4,[x0,x1,x2,x3,x4,x5,x6,x7,x8,x9])) (hl : Mor M x9 l) (hnd : l.Nodup) (hsl : s ∈ l) (Bq : List Int) (hq : q a true = s :: Bq) (hs0 : 0 ≤ y3) (X : List Int) (hMb : M y4 = some (2,X)) (hX : (X.length : Int) = y0) (hk : 0 < y2 ∧ y2 ≤ y0) : CallF (fun _ => Tryz.prog) 27 [.ptr 0 (.lit 0),i6 w] [hpA 0 1 5 6 3 W ph sp cy,hpB 1 2 4 3 W,hpC 2 3 233 2 N,hpP 3 L,hpP 4 D,hpF 5 z ov,hpP 6 Q,(7,.fix 0 o)] 8 (fun r h n => ∃ (v : Int) (ws' : List Int) (D' : List PV) (M' : Hp),r = .tup [i6 v,i6 g,i6 1] ∧ h = [hpA 0 1 5 6 3 W ph sp cy,hpB 1 2 4 3 W,hpC 2 3 233 2 N,hpP 3 L,hpP 4 D',hpF 5 z ov,hpP 6 Q,(7,.fix 0 o)] ∧ n = 8 ∧ HM R ws' C G N W L D' Q z ∧ X[(y3 % y0).toNat]? = some v ∧ Cont R ws' M' ∧ Sys M' (rmQ q l) ∧ M' g = some (4,[x0,0,p] ++ setR r_ 0 [x3,x4,x5,x6,x7,x8] ++ [-1]) ∧ M' a = some (1,[y0,y1,y2,(y3 % y0 + 1) % y0,y4,hdQ (rmQ q l a false),ltQ (rmQ q l a false),hdQ (rmQ q l a true),ltQ (rmQ q l a true)]) ∧ M' y4 = some (2,(X.set (y3 % y0).toNat 0).set (((y3 % y0 + 1) % y0 % y0 + (y2 - 1)) % y0).toNat wv) ∧ ∀ e,e ≠ g → e ≠ a → e ≠ y4 → M' e = relink M (rmQ q l) e) :=
 (takeMoved_lx R ws C G N W ph sp cy L D Q z ov h M hM q hY o ho hph w hw h0 a y0 y1 y2 y3 y4 y5 y6 y7 y8 ha hMa s g wv n p r_ m_ x0 x1 x2 x3 x4 x5 x6 x7 x8 x9 l hMs hMg hl hnd hsl Bq hq hs0 X hMb hX hk _ rfl).mono fun r h' n' hrr => by
  obtain ⟨v,ws',D',e1,e2,e3,h1,hv,c1⟩ := hrr
  have hab : a ≠ y4 := fun e => by rw [e,hMb] at hMa; cases hMa
  have hga : g ≠ a := fun e => by rw [e,hMa] at hMg; cases hMg
  have hgb : g ≠ y4 := fun e => by rw [e,hMb] at hMg; cases hMg
  have hY1 := sysRing (X' := X.set (y3 % y0).toNat 0) hY hMa hMb (y2 - 1) ((y3 % y0 + 1) % y0)
  obtain ⟨M1,hM1⟩ : ∃ M1,M1 = upd (upd M y4 (2,X.set (y3 % y0).toNat 0)) a (1,[y0,y1,y2 - 1,(y3 % y0 + 1) % y0,y4,y5,y6,y7,y8]) := ⟨_,rfl⟩
  rw [← hM1] at hY1 c1
  have hMa1 : M1 a = some (1,[y0,y1,y2 - 1,(y3 % y0 + 1) % y0,y4,y5,y6,y7,y8]) := by rw [hM1]; exact upd_same _ _ _
  have hMb1 : M1 y4 = some (2,X.set (y3 % y0).toNat 0) := by rw [hM1,upd_ne hab.symm]; exact upd_same _ _ _
  have hMg1 : M1 g = some (4,[x0,x1,x2,x3,x4,x5,x6,x7,x8,x9]) := by rw [hM1,upd_ne hga,upd_ne hgb]; exact hMg
  have hMo1 : ∀ e,e ≠ a → e ≠ y4 → M1 e = M e := fun e k1 k2 => by rw [hM1,upd_ne k1,upd_ne k2]
  have hY2 := sysPop hY1 hq
  have hMa2 := relink_ch (q := updQ q a true Bq) hMa1
  have hMb2 := relink_other (q := updQ q a true Bq) hMb1 ⟨by decide,by decide⟩
  have hMg2 := relink_other (q := updQ q a true Bq) hMg1 ⟨by decide,by decide⟩
  have hMo2 : ∀ e,e ≠ a → e ≠ y4 → relink M1 (updQ q a true Bq) e = relink M (updQ q a true Bq) e := fun e k1 k2 => by unfold relink; rw [hMo1 e k1 k2]
  have hY3 := sysRing (X' := (X.set (y3 % y0).toNat 0).set (((y3 % y0 + 1) % y0 % y0 + (y2 - 1)) % y0).toNat wv) hY2 hMa2 hMb2 (y2 - 1 + 1) ((y3 % y0 + 1) % y0)
  generalize hN1 : relink M1 (updQ q a true Bq) = N1 at c1 hY2 hMa2 hMb2 hMg2 hY3 hMo2
  obtain ⟨N2,hN2⟩ : ∃ N2,N2 = upd (upd N1 y4 (2,(X.set (y3 % y0).toNat 0).set (((y3 % y0 + 1) % y0 % y0 + (y2 - 1)) % y0).toNat wv)) a (1,[y0,y1,y2 - 1 + 1,(y3 % y0 + 1) % y0,y4,hdQ (updQ q a true Bq a false),ltQ (updQ q a true Bq a false),hdQ (updQ q a true Bq a true),ltQ (updQ q a true Bq a true)]) := ⟨_,rfl⟩
  rw [← hN2] at c1 hY3
  have hNa : N2 a = some (1,[y0,y1,y2 - 1 + 1,(y3 % y0 + 1) % y0,y4,hdQ (updQ q a true Bq a false),ltQ (updQ q a true Bq a false),hdQ (updQ q a true Bq a true),ltQ (updQ q a true Bq a true)]) := by rw [hN2]; exact upd_same _ _ _
  have hNb : N2 y4 = some (2,(X.set (y3 % y0).toNat 0).set (((y3 % y0 + 1) % y0 % y0 + (y2 - 1)) % y0).toNat wv) := by rw [hN2,upd_ne hab.symm]; exact upd_same _ _ _
  have hNg : N2 g = some (4,[x0,x1,x2,x3,x4,x5,x6,x7,x8,x9]) := by rw [hN2,upd_ne hga,upd_ne hgb]; exact hMg2
  have hNo : ∀ e,e ≠ a → e ≠ y4 → N2 e = relink M (updQ q a true Bq) e := fun e k1 k2 => by rw [hN2,upd_ne k1,upd_ne k2,hMo2 e k1 k2]
  have hY4 := sysFilt hY3 l
  rw [pop_rm hq hsl] at hY4
  have hg4 := relink_other (q := rmQ q l) hNg ⟨by decide,by decide⟩
  have hY5 := sysOther (F := [x0,0,p] ++ setR r_ 0 [x3,x4,x5,x6,x7,x8] ++ [-1]) hY4 hg4 ⟨by decide,by decide⟩
  refine ⟨v,ws',D',_,e1,e2,e3,h1,hv,c1,hY5,upd_same _ _ _,?_,?_,fun e k1 k2 k3 => ?_⟩
  ·rw [upd_ne hga.symm,relink_ch hNa,show y2 - 1 + 1 = y2 by omega]
  ·rw [upd_ne hgb.symm,relink_other hNb ⟨by decide,by decide⟩]
  ·rw [upd_ne k1]
   unfold relink
   rw [hNo e k2 k3]
   unfold relink
   cases M e with
   | none => rfl
   | some v => simp [lnk_lnk]
end Go.Proofs.YtkhfgngcoiablaaGreatDoor
