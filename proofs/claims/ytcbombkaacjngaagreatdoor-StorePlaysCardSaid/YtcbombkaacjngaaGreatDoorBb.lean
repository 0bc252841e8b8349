/-
  The ground of the proof, part 2: the calculus and what is proved with it.
-/
import Derived.Test.YtcbombkaacjngaaGreatDoorBa
import Derived.Laws.BytesString
import Derived.Laws.RangeAny
import Derived.Laws.OwnMore
import Derived.Laws.MakeOwn
import Derived.Lib.AppendStr
import Derived.Orders
import Derived.Deep.LoopGhost
import Derived.LoopN
namespace Go.LX
open Go
set_option linter.unusedVariables false
set_option maxHeartbeats 32000000
section
variable {P : Program} {T : TT} {o : Oper} {s : LS} {K : LS → Prop} {c : Ctx} {a : Act} {w w' : World} {Q : Exit → Act → World → Prop}
theorem tok_under {t : Nat} {ti : TI} (hT : TIok P t ti) : ∃ d,P.underlying t = some d ∧ kindOk P ti.kind d := by
 obtain ⟨⟨_,_,d,_,_,_,_,_,hu,hkd,_⟩,_⟩ := hT
 exact ⟨d,hu,hkd⟩
theorem lop_not {t : TypeId} {x : Operand} {b : Bool} (ho : o.op = .unOp .not t x) (hs : St c s a w) (hx0 : ev s x = .p (.bool b)) (h : K (s.put o.dst (.p (.bool (!b))))) : o.wp P a w (Post K c w) Q := by
 have hv : a.eval x = .bool b := LR.inv_bool (hx0 ▸ hs.ev x)
 exact op_val hs (v := .bool (!b)) (by unfold execOp; rw [ho]; exact runv (by simp [Op.unary,hv])) (LR.of_bool _) h
theorem lop_neg {t : TypeId} {x : Operand} {k : IntKind} {e : I} (ho : o.op = .unOp .neg t x) (hs : St c s a w) (hx0 : ev s x = .p (.int k e)) (h : ar k .sub (.lit 0) e fun z => K (s.put o.dst (.p (.int k z)))) : o.wp P a w (Post K c w) Q := by
 have hv : a.eval x = .int k e.val := LR.inv_int (hx0 ▸ hs.ev x)
 have key : ∃ z : I,z.val = k.wrap (0 - e.val) ∧ K (s.put o.dst (.p (.int k z))) := by
  cases e with
  | lit n => exact ⟨_,rfl,h⟩
  | sym n => exact fit h
 obtain ⟨z,hz,hK⟩ := key
 exact op_val hs (v := .int k z.val) (by unfold execOp; rw [ho]; exact runv (by simp [Op.unary,hv,Op.intArith,hz])) (LR.of_int _ _) hK
theorem lop_index (hT : TOK P T) {t : TypeId} {x y : Operand} {ti : TI} {z : Unit → ByteArray} {k : IntKind} {i : I} (ht : lget T t = some ti) (hk : ti.kind = .str) (hx0 : ev s x = .p (.str z)) (hi : ev s y = .p (.int k i)) (ho : o.op = .index t x y) (hs : St c s a w)
  (h : Need (fun _ => 0 ≤ i.val ∧ i.val < (z ()).size) fun _ => Sum (fun _ => ((z ()).get! i.val.toNat).toNat) fun y => K (s.put o.dst (.p (.int .u8 y)))) : o.wp P a w (Post K c w) Q := by
 have hx : a.eval x = .string (z ()) := LR.inv_str (hx0 ▸ hs.ev x)
 generalize z () = z at *
 have hy : a.eval y = .int k i.val := LR.inv_int (hi ▸ hs.ev y)
 obtain ⟨d,hu,hkd⟩ := tok_under (hT t ti ht)
 rw [hk] at hkd
 cases d <;> try exact hkd.elim
 obtain ⟨⟨h1,h2⟩,h3⟩ := need h
 obtain ⟨u,hu2,hK⟩ := sum h3
 refine op_val hs (v := .int .u8 u.val) ?_ (LR.of_int _ _) hK
 unfold execOp; rw [ho]
 refine runv ?_
 have hlt : i.val.toNat < z.size := by omega
 have hg : z[i.val.toNat]? = some (z[i.val.toNat]'hlt) := by simp [hlt]
 have hg2 : z.get! i.val.toNat = z[i.val.toNat]'hlt := by
  show z.data[i.val.toNat]! = z.data[i.val.toNat]
  rw [getElem!_pos]
 simp [Instr.index,asIntOf,hx,hy,run_underlying hu,h1,hg,hu2,hg2]
theorem lop_sliceStr (hT : TOK P T) {t : TypeId} {x : Operand} {lo hi : Option Operand} {ti : TI} {z : Unit → ByteArray} (ht : lget T t = some ti) (hk : ti.kind = .str) (hx0 : ev s x = .p (.str z)) (ho : o.op = .slice t x lo hi none) (hs : St c s a w)
  (h : match (lo.map (ev s)).getD (.p (.int .i64 (.lit 0))) with
     | .p (.int _ lo) => match hi.map (ev s) with
      | none => Need (fun _ => 0 ≤ lo.val ∧ lo.val ≤ (z ()).size) fun _ => Str (fun _ => (z ()).extract lo.val.toNat (z ()).size) fun y => K (s.put o.dst (.p (.str y)))
      | some (.p (.int _ hi)) => Need (fun _ => 0 ≤ lo.val ∧ lo.val ≤ hi.val ∧ hi.val ≤ (z ()).size) fun _ => Str (fun _ => (z ()).extract lo.val.toNat hi.val.toNat) fun y => K (s.put o.dst (.p (.str y)))
      | _ => False
     | _ => False) : o.wp P a w (Post K c w) Q := by
 have hx : a.eval x = .string (z ()) := LR.inv_str (hx0 ▸ hs.ev x)
 generalize z () = z at *
 obtain ⟨d,hu,hkd⟩ := tok_under (hT t ti ht)
 rw [hk] at hkd
 cases d <;> try exact hkd.elim
 split at h
 ·rename_i k l hlo
  have hlov : (lo = none ∧ l.val = 0) ∨ ∃ xo,lo = some xo ∧ a.eval xo = .int k l.val := by
   cases lo with
   | none => left; simp at hlo; obtain ⟨_,rfl⟩ := hlo; exact ⟨rfl,rfl⟩
   | some xo =>
    right
    simp at hlo
    exact ⟨xo,rfl,LR.inv_int (hlo ▸ hs.ev xo)⟩
  split at h
  ·rename_i hhi
   have hhi : hi = none := by cases hi <;> simp_all
   subst hhi
   obtain ⟨⟨h1,h2⟩,h3⟩ := need h
   obtain ⟨yy,hyy,h3⟩ := str h3
   refine op_val hs (v := .string (yy ())) ?_ (LR.of_str yy) h3
   unfold execOp; rw [ho]
   refine runv ?_
   have h2' : l.val ≤ (z.size : Int) := h2
   rcases hlov with ⟨rfl,h0⟩ | ⟨xo,rfl,hxo⟩
   ·simp [Instr.sliceAt,Instr.slice,run_underlying hu,hx,Instr.sliceBounds,h0,hyy]
   ·simp [Instr.sliceAt,Instr.slice,run_underlying hu,hx,Instr.sliceBounds,Instr.sliceBound,asIntOf,hxo,h1,h2',hyy]
  ·rename_i k' hv hhi
   obtain ⟨yo,rfl,hyo⟩ : ∃ yo,hi = some yo ∧ a.eval yo = .int k' hv.val := by
    cases hi with
    | none => simp at hhi
    | some yo => simp at hhi; exact ⟨yo,rfl,LR.inv_int (hhi ▸ hs.ev yo)⟩
   obtain ⟨⟨h1,h2,h2'⟩,h3⟩ := need h
   obtain ⟨yy,hyy,h3⟩ := str h3
   refine op_val hs (v := .string (yy ())) ?_ (LR.of_str yy) h3
   unfold execOp; rw [ho]
   refine runv ?_
   obtain ⟨j,hj⟩ : ∃ j : Nat,hv.val = j := ⟨hv.val.toNat,by omega⟩
   have g1 : (0 : Int) ≤ hv.val := by omega
   have g2 : hv.val ≤ (z.size : Int) := h2'
   have g3 : l.val ≤ ((hv.val.toNat : Nat) : Int) := by omega
   have g4 : (0 : Int) ≤ (hv.val.toNat : Nat) := by omega
   rcases hlov with ⟨rfl,h0⟩ | ⟨xo,rfl,hxo⟩
   ·simp [Instr.sliceAt,Instr.slice,run_underlying hu,hx,Instr.sliceBounds,Instr.sliceBound,asIntOf,hyo,g1,g2,h0,hyy]
   ·have g5 : l.val ≤ max hv.val 0 := by omega
    simp [Instr.sliceAt,Instr.slice,run_underlying hu,hx,Instr.sliceBounds,Instr.sliceBound,asIntOf,hyo,hxo,h1,g1,g2,g5,hyy]
  ·exact h.elim
 ·exact h.elim
theorem Addr.add_off {a : Addr} (hs : a.spot = none) (m n : Nat) : (a.add m).add n = a.add (m + n) := by
 unfold Addr.add
 obtain ⟨b,o,sp⟩ := a
 subst hs
 by_cases h1 : m = 0 <;> by_cases h2 : n = 0 <;> simp [h1,h2] <;> omega
theorem Addr.add_spot {a : Addr} (hs : a.spot = none) (m : Nat) : (a.add m).spot = none := by
 unfold Addr.add; split
 ·exact hs
 ·rfl
theorem vsl_part {M : Nat → Prop} {n : I} {sy : Bool} {l : List PV} {v : Value} (h : PR M w (.vsl n sy l) v) : ∃ (ad : Option Addr) (k cp : Nat),v = .slice ad k cp ∧ n.val = k ∧ k ≤ cp ∧ cp ≤ maxLen ∧
  ∀ (l' : List PV) (lo hi sz : Nat) (z : I),lo ≤ hi → hi ≤ k → z.val = (hi - lo : Nat) → (∀ (j : Nat) (u : PV),l'[j]? = some u → l[lo * sz + j]? = some u) → PR M w (.vsl z true l') (.slice (if cp = lo then ad else ad.map (·.add (lo * sz))) (hi - lo) (cp - lo)) := by
 cases h with
 | vsl0 _ _ _ a c h0 hc =>
  refine ⟨a,0,c,rfl,h0,Nat.zero_le _,hc,fun l' lo hi sz z h1 h2 h3 h4 => ?_⟩
  have : hi - lo = 0 := by omega
  rw [this] at h3 ⊢
  exact .vsl0 _ _ _ _ _ h3 (by omega)
 | vsl _ _ _ a k c f h0 hs hM hlt hk hc hcell hrel =>
  refine ⟨some a,k,c,rfl,h0,hk,hc,fun l' lo hi sz z h1 h2 h3 h4 => ?_⟩
  by_cases he : c = lo
  ·have : hi - lo = 0 := by omega
   rw [this] at h3 ⊢
   exact .vsl0 _ _ _ _ _ h3 (by omega)
  ·rw [if_neg he]
   refine .vsl _ _ _ (a.add (lo * sz)) (hi - lo) (c - lo) (fun j => f (lo * sz + j)) h3 (Addr.add_spot hs _) (by rw [add_block]; exact hM) (by rw [add_block]; exact hlt) (by omega) (by omega) (fun j u hu => ?_) (fun j u hu => hrel _ u (h4 j u hu))
   rw [Addr.add_off hs]
   exact hcell _ u (h4 j u hu)
theorem BR.lenB_le {B : LB} {r e tot : Nat} (hB : BR c w B (some r)) (hs : w.shape? r = some (e,tot)) : lenB B ≤ tot := by
 cases B with
 | iter _ _ => exact Nat.zero_le _
 | set _ => exact Nat.zero_le _
 | kv l vs => exact Nat.zero_le _
 | frz l => exact Nat.zero_le _
 | fix _ _ => exact Nat.zero_le _
 | bld _ _ => exact Nat.zero_le _
 | pure sy l =>
  obtain ⟨cur,ty,h1,h2,_⟩ := hB
  rw [World.shape?,h1] at hs
  cases hs; exact h2
 | mix l =>
  obtain ⟨cur,ty,h1,h2,_⟩ := hB
  rw [World.shape?,h1] at hs
  cases hs; exact h2
theorem BR.lenB_none {B : LB} (hB : BR c w B none) : lenB B = 0 := by
 cases B with
 | iter _ _ => exact hB.elim
 | set _ => exact hB.elim
 | kv l vs => exact hB.elim
 | frz l => exact hB.elim
 | fix _ _ => rfl
 | bld _ _ => rfl
 | pure sy l => have : l = [] := hB; subst this; rfl
 | mix l => have : l = [] := hB; subst this; rfl
theorem lop_sliceSl (hT : TOK P T) {t e : TypeId} {x : Operand} {lo hi : Option Operand} {ti te : TI} (ht : lget T t = some ti) (hk : ti.kind = .slice e) (hte : lget T e = some te) (ho : o.op = .slice t x lo hi none) (hs : St c s a w)
  (h : sliceL s te (ev s x) lo.isSome ((lo.map (ev s)).getD (.p (.int .i64 (.lit 0)))) (hi.map (ev s)) fun v => K (s.put o.dst v)) : o.wp P a w (Post K c w) Q := by
 have hx := hs.ev x
 obtain ⟨d,hu,hkd⟩ := tok_under (hT t ti ht)
 rw [hk] at hkd
 cases d <;> try exact hkd.elim
 rename_i e'
 have hkd : e = e' := hkd
 subst hkd
 have hsz : (sizeOf e).run P w = .ok te.size w := tok_size (hT e te hte)
 unfold sliceL at h
 split at h
 case h_2 => exact h.elim
 rename_i k l hlo
 have hlov : (lo = none ∧ l.val = 0) ∨ ∃ xo,lo = some xo ∧ a.eval xo = .int k l.val := by
  cases lo with
  | none => left; simp at hlo; obtain ⟨_,rfl⟩ := hlo; exact ⟨rfl,rfl⟩
  | some xo =>
   right
   simp at hlo
   exact ⟨xo,rfl,LR.inv_int (hlo ▸ hs.ev xo)⟩
 clear hlo
 have run : ∀ (ad : Option Addr) (len cp hv : Nat),a.eval x = .slice ad len cp → l.val.toNat ≤ hv → 0 ≤ l.val → (hi = none ∧ hv = len ∨ ∃ yo k',hi = some yo ∧ a.eval yo = .int k' hv) → hv ≤ cp →
   (execOp a.eval o).run P w = .ok (.value (.slice (if cp = l.val.toNat then ad else ad.map (·.add (l.val.toNat * te.size))) (hv - l.val.toNat) (cp - l.val.toNat))) w := by
  intro ad len cp hv hvx h1 h2 h3 h4
  unfold execOp; rw [ho]
  refine runv ?_
  obtain ⟨lv,hlv⟩ : ∃ lv : Nat,l.val = lv := ⟨l.val.toNat,by omega⟩
  have e0 : l.val.toNat = lv := by omega
  rw [e0] at h1 ⊢
  rcases h3 with ⟨rfl,rfl⟩ | ⟨yo,k',rfl,hyo⟩
  ·rcases hlov with ⟨rfl,h0⟩ | ⟨xo,rfl,hxo⟩
   ·have : lv = 0 := by omega
    subst this
    simp [Instr.sliceAt,Instr.slice,run_underlying hu,hvx,Instr.sliceBounds,hsz]
   ·rw [hlv] at hxo
    simp [Instr.sliceAt,Instr.slice,run_underlying hu,hvx,Instr.sliceBounds,Instr.sliceBound,asIntOf,hxo,h1,hsz]
  ·rcases hlov with ⟨rfl,h0⟩ | ⟨xo,rfl,hxo⟩
   ·have : lv = 0 := by omega
    subst this
    simp [Instr.sliceAt,Instr.slice,run_underlying hu,hvx,Instr.sliceBounds,Instr.sliceBound,asIntOf,hyo,h4,hsz]
   ·rw [hlv] at hxo
    simp [Instr.sliceAt,Instr.slice,run_underlying hu,hvx,Instr.sliceBounds,Instr.sliceBound,asIntOf,hyo,hxo,h1,h4,hsz]
 split at h
 ·rename_i n sy cl hxe
  rw [hxe] at hx
  obtain ⟨vx,hvx⟩ : ∃ v,a.eval x = v := ⟨_,rfl⟩
  rw [hvx] at hx
  obtain ⟨ad,len,cp,rfl,hn,hle,hcp,hpart⟩ := vsl_part (by cases hx with | p _ _ h => exact h)
  cases hi with
  | some yo =>
   simp only [Option.map_some] at h
   split at h
   ·rename_i k' hv hhi
    have hyo : a.eval yo = .int k' hv.val := LR.inv_int (Option.some.inj hhi ▸ hs.ev yo)
    obtain ⟨⟨h1,h2,h3⟩,h4⟩ := need h
    have h5 := upd h4
    obtain ⟨z,hz,h6⟩ := sum h5
    have hr := run ad len cp hv.val.toNat hvx (by omega) h1 (.inr ⟨yo,k',rfl,by rw [hyo]; congr 1; omega⟩) (by omega)
    refine op_val hs hr (.p _ _ (hpart _ l.val.toNat hv.val.toNat te.size z (by omega) (by omega) (by rw [hz]; omega) fun j u hu => ?_)) h6
    rw [List.getElem?_take] at hu
    split at hu
    ·rw [List.getElem?_drop] at hu; exact hu
    ·cases hu
   ·exact h.elim
   ·rename_i hhi; cases hhi
  | none =>
   simp only [Option.map_none] at h
   obtain ⟨⟨h1,h3⟩,h4⟩ := need h
   have h5 := upd h4
   obtain ⟨z,hz,h6⟩ := sum h5
   have hr := run ad len cp len hvx (by omega) h1 (.inl ⟨rfl,rfl⟩) (by omega)
   refine op_val hs hr (.p _ _ (hpart _ l.val.toNat len te.size z (by omega) (by omega) (by rw [hz]; omega) fun j u hu => ?_)) h6
   rw [List.getElem?_drop] at hu; exact hu
 ·rename_i b e2 sz o' n hxe
  split at h
  ·rename_i B hB hfr
   have hlo : lo = none := by cases lo with | none => rfl | some _ => cases hfr
   subst hlo
   have hl0 : l.val = 0 := by
    rcases hlov with ⟨_,h0⟩ | ⟨_,h0,_⟩
    ·exact h0
    ·cases h0
   cases hi with
   | none => exact h.elim
   | some yo =>
   simp only [Option.map_some] at h
   split at h
   ·rename_i k' hv hhi
    have hyo : a.eval yo = .int k' hv.val := LR.inv_int (Option.some.inj hhi ▸ hs.ev yo)
    obtain ⟨⟨h1,h2⟩,h4⟩ := need h
    rw [hxe] at hx
    obtain ⟨vx,hvx⟩ : ∃ v,a.eval x = v := ⟨_,rfl⟩
    rw [hvx] at hx
    obtain ⟨m,hm,hBR⟩ := hs.hr.live b B hB
    cases hx with
    | sl _ _ _ _ _ r j k2 cp tot hm2 ho2 hn hk2 hc hsh htot =>
     have hcap : hv.val ≤ cp := by
      rcases h2 with h2 | ⟨h2,h3⟩
      ·omega
      ·rw [hm] at hm2; cases hm2
       have hle := hBR.lenB_le hsh
       obtain ⟨q,hq⟩ : ∃ q : Nat,hv.val = q := ⟨hv.val.toNat,by omega⟩
       rw [hq,ho2] at h3
       have h3 : j + q * sz ≤ lenB B := by exact_mod_cast h3
       have : q * sz ≤ cp * sz := by omega
       have := Nat.le_of_mul_le_mul_right this h2
       omega
     have hr := run (some ⟨r,j,none⟩) k2 cp hv.val.toNat hvx (by omega) (by omega) (.inr ⟨yo,k',rfl,by rw [hyo]; congr 1; omega⟩) (by omega)
     refine op_val hs hr ?_ h4
     have e1 : l.val.toNat = 0 := by omega
     rw [e1]
     have e2 : (if cp = 0 then some (⟨r,j,none⟩ : Addr) else (some (⟨r,j,none⟩ : Addr)).map (·.add (0 * te.size))) = some ⟨r,j,none⟩ := by
      split
      ·rfl
      ·simp [Addr.add]
     rw [e2]
     exact .sl _ _ _ _ _ r j hv.val.toNat cp tot hm2 ho2 (by omega) (by omega) hc hsh htot
    | slv _ _ _ _ _ hm2 ho2 hn =>
     have hz0 : hv.val = 0 := by
      rcases h2 with h2 | ⟨h2,h3⟩
      ·omega
      ·rw [hm] at hm2; cases hm2
       rw [hBR.lenB_none,ho2] at h3
       obtain ⟨q,hq⟩ : ∃ q : Nat,hv.val = q := ⟨hv.val.toNat,by omega⟩
       rw [hq] at h3 ⊢
       have h3 : q * sz ≤ 0 := by simpa using (by exact_mod_cast h3 : 0 + q * sz ≤ 0)
       have : q ≤ q * sz := Nat.le_mul_of_pos_right q h2
       omega
     have hr := run none 0 0 hv.val.toNat hvx (by omega) (by omega) (.inr ⟨yo,k',rfl,by rw [hyo]; congr 1; omega⟩) (by omega)
     refine op_val hs hr ?_ h4
     have e0 : hv.val.toNat = 0 := by omega
     have e1 : l.val.toNat = 0 := by omega
     rw [e1,e0]
     exact .slv _ _ _ _ _ hm2 ho2 (by omega)
    | slz _ _ _ _ _ ad r tot hm2 ho2 hn hsh h0 =>
     have hz0 : hv.val = 0 := by
      rcases h2 with h2 | ⟨h2,h3⟩
      ·omega
      ·rw [hm] at hm2; cases hm2
       have hle := hBR.lenB_le hsh
       obtain ⟨q,hq⟩ : ∃ q : Nat,hv.val = q := ⟨hv.val.toNat,by omega⟩
       rw [hq,ho2] at h3
       have h3 : tot + q * sz ≤ lenB B := by exact_mod_cast h3
       have : q ≤ q * sz := Nat.le_mul_of_pos_right q h2
       omega
     have hr := run ad 0 0 hv.val.toNat hvx (by omega) (by omega) (.inr ⟨yo,k',rfl,by rw [hyo]; congr 1; omega⟩) (by omega)
     refine op_val hs hr ?_ h4
     have e0 : hv.val.toNat = 0 := by omega
     have e1 : l.val.toNat = 0 := by omega
     rw [e1,e0,if_pos rfl]
     exact .slz _ _ _ _ _ ad r tot hm2 ho2 (by omega) hsh h0
    | goneS _ _ _ _ _ _ _ _ hm2 _ => rw [hm] at hm2; cases hm2
   ·exact h.elim
  ·rename_i B hB hfr
   cases hsz2 : Nat.beq sz te.size with
   | false => rw [hsz2] at h; exact h.elim
   | true =>
    rw [hsz2] at h
    have hsz2 := Nat.eq_of_beq_eq_true hsz2
    subst hsz2
    rw [hxe] at hx
    obtain ⟨vx,hvx⟩ : ∃ v,a.eval x = v := ⟨_,rfl⟩
    rw [hvx] at hx
    obtain ⟨m,hm,hBR⟩ := hs.hr.live b B hB
    have fin : ∀ {hv : Int} {L : I → Prop},0 ≤ l.val → l.val ≤ hv → hv ≤ n.val → (hi = none ∧ hv = n.val ∨ ∃ yo k',hi = some yo ∧ a.eval yo = .int k' hv) →
      (imul l te.size fun z => iadd o' z fun o2 => Sum (fun _ => hv - l.val) fun k => K (s.put o.dst (.sl b e2 te.size o2 k))) → o.wp P a w (Post K c w) Q := by
     intro hv L h1 h2 h3 hhi h4
     obtain ⟨z,hz,h5⟩ := imul_sound h4
     obtain ⟨y,hy,h6⟩ := iadd_sound h5
     obtain ⟨kk,hkk,h7⟩ := sum h6
     cases hx with
     | sl _ _ _ _ _ r j k2 cp tot hm2 ho2 hn hk2 hc hsh htot =>
      have hr := run (some ⟨r,j,none⟩) k2 cp hv.toNat hvx (by omega) h1 (by
       rcases hhi with ⟨g1,g2⟩ | ⟨yo,k',g1,g2⟩
       ·exact .inl ⟨g1,by omega⟩
       ·exact .inr ⟨yo,k',g1,by rw [g2]; congr 1; omega⟩) (by omega)
      refine op_val hs hr ?_ h7
      by_cases hcq : k2 = l.val.toNat ∧ cp = l.val.toNat
      ·obtain ⟨g1,g2⟩ := hcq
       have g3 : hv.toNat = l.val.toNat := by omega
       rw [if_pos g2,g3,g2,Nat.sub_self]
       have g4 : (cp : Int) = l.val := by omega
       have g5 : y.val = ((j + cp * te.size : Nat) : Int) := by rw [hy,ho2,hz,← g4]; push_cast; rfl
       rcases Nat.eq_zero_or_pos tot with h8 | h8
       ·refine .sl _ _ _ _ _ r j 0 0 tot hm2 (by rw [g5]; omega) (by rw [hkk]; omega) (Nat.le_refl _) (Nat.zero_le _) hsh (by omega)
       ·refine .slz _ _ _ _ _ _ r tot hm2 (by rw [g5,htot]) (by rw [hkk]; omega) hsh h8
      rw [if_neg (by omega)]
      obtain ⟨q,hq⟩ : ∃ q : Nat,l.val = q := ⟨l.val.toNat,by omega⟩
      obtain ⟨p,hp⟩ : ∃ p : Nat,hv = p := ⟨hv.toNat,by omega⟩
      have e0 : l.val.toNat = q := by omega
      have e1 : hv.toNat = p := by omega
      rw [e0,e1]
      simp only [Option.map_some,add_lit]
      refine .sl _ _ _ _ _ r (j + q * te.size) (p - q) (cp - q) tot hm2 ?_ (by omega) (by omega) (by omega) hsh ?_
      ·rw [hy,ho2,hz,hq]; push_cast; rfl
      ·have : (cp - q) * te.size = cp * te.size - q * te.size := Nat.mul_sub_right_distrib _ _ _
       have h8 : q * te.size ≤ cp * te.size := Nat.mul_le_mul_right _ (by omega)
       omega
     | slv _ _ _ _ _ hm2 ho2 hn =>
      have hr := run none 0 0 hv.toNat hvx (by omega) h1 (by
       rcases hhi with ⟨g1,g2⟩ | ⟨yo,k',g1,g2⟩
       ·exact .inl ⟨g1,by omega⟩
       ·exact .inr ⟨yo,k',g1,by rw [g2]; congr 1; omega⟩) (by omega)
      refine op_val hs hr ?_ h7
      have g1 : hv.toNat = 0 := by omega
      have g2 : l.val = 0 := by omega
      rw [g1,g2,Int.toNat_zero,if_pos rfl]
      exact .slv _ _ _ _ _ hm2 (by rw [hy,ho2,hz,g2]; simp) (by rw [hkk]; omega)
     | slz _ _ _ _ _ ad r tot hm2 ho2 hn hsh h0 =>
      have hr := run ad 0 0 hv.toNat hvx (by omega) h1 (by
       rcases hhi with ⟨g1,g2⟩ | ⟨yo,k',g1,g2⟩
       ·exact .inl ⟨g1,by omega⟩
       ·exact .inr ⟨yo,k',g1,by rw [g2]; congr 1; omega⟩) (by omega)
      refine op_val hs hr ?_ h7
      have g1 : hv.toNat = 0 := by omega
      have g2 : l.val = 0 := by omega
      rw [g1,g2,Int.toNat_zero,if_pos rfl]
      exact .slz _ _ _ _ _ ad r tot hm2 (by rw [hy,ho2,hz,g2]; simp) (by rw [hkk]; omega) hsh h0
     | goneS _ _ _ _ _ _ _ _ hm2 _ => rw [hm] at hm2; cases hm2
    have fin0 : ∀ {hv : Int},0 ≤ l.val → l.val = hv → hv ≤ n.val → (hi = none ∧ hv = n.val ∨ ∃ yo k',hi = some yo ∧ a.eval yo = .int k' hv) → K (s.put o.dst (.p (.vsl (.lit 0) false []))) → o.wp P a w (Post K c w) Q := by
     intro hv h1 h2 h3 hhi h4
     cases hx with
     | sl _ _ _ _ _ r j k2 cp tot hm2 ho2 hn hk2 hc hsh htot =>
      have hr := run (some ⟨r,j,none⟩) k2 cp hv.toNat hvx (by omega) (by omega) (by
       rcases hhi with ⟨g1,g2⟩ | ⟨yo,k',g1,g2⟩
       ·exact .inl ⟨g1,by omega⟩
       ·exact .inr ⟨yo,k',g1,by rw [g2]; congr 1; omega⟩) (by omega)
      refine op_val hs hr ?_ h4
      have e0 : hv.toNat - l.val.toNat = 0 := by omega
      rw [e0]
      exact .p _ _ (.vsl0 _ _ _ _ _ rfl (by omega))
     | slv _ _ _ _ _ hm2 ho2 hn =>
      have hr := run none 0 0 hv.toNat hvx (by omega) (by omega) (by
       rcases hhi with ⟨g1,g2⟩ | ⟨yo,k',g1,g2⟩
       ·exact .inl ⟨g1,by omega⟩
       ·exact .inr ⟨yo,k',g1,by rw [g2]; congr 1; omega⟩) (by omega)
      refine op_val hs hr ?_ h4
      have e0 : hv.toNat - l.val.toNat = 0 := by omega
      rw [e0]
      exact .p _ _ (.vsl0 _ _ _ _ _ rfl (by omega))
     | slz _ _ _ _ _ ad r tot hm2 ho2 hn hsh h0 =>
      have hr := run ad 0 0 hv.toNat hvx (by omega) (by omega) (by
       rcases hhi with ⟨g1,g2⟩ | ⟨yo,k',g1,g2⟩
       ·exact .inl ⟨g1,by omega⟩
       ·exact .inr ⟨yo,k',g1,by rw [g2]; congr 1; omega⟩) (by omega)
      refine op_val hs hr ?_ h4
      have e0 : hv.toNat - l.val.toNat = 0 := by omega
      rw [e0]
      exact .p _ _ (.vsl0 _ _ _ _ _ rfl (by omega))
     | goneS _ _ _ _ _ _ _ _ hm2 _ => rw [hm] at hm2; cases hm2
    cases hi with
    | some yo =>
     simp only [Option.map_some] at h
     split at h
     ·rename_i k' hv hhi
      have hyo : a.eval yo = .int k' hv.val := LR.inv_int (Option.some.inj hhi ▸ hs.ev yo)
      cases h with
      | new hp h =>
       obtain ⟨h1,h2,h3⟩ := hp
       exact fin (L := fun _ => True) h1 (Int.le_of_lt h2) h3 (.inr ⟨yo,k',rfl,hyo⟩) h
      | within hp h =>
       obtain ⟨h1,h2,h3⟩ := hp
       exact fin0 h1 h2 h3 (.inr ⟨yo,k',rfl,hyo⟩) h
     ·exact h.elim
     ·rename_i hhi; cases hhi
    | none =>
     simp only [Option.map_none] at h
     cases h with
     | new hp h =>
      obtain ⟨h1,h2⟩ := hp
      exact fin (L := fun _ => True) h1 h2 (Int.le_refl _) (.inl ⟨rfl,rfl⟩) h
     | within hp h =>
      obtain ⟨h1,h2⟩ := hp
      exact fin0 h1 h2 (Int.le_refl _) (.inl ⟨rfl,rfl⟩) h
  ·exact h.elim
 ·exact h.elim
theorem bytesOf_len : ∀ {l : List PV} {s : List UInt8},bytesOf l s → l.length = s.length
 | [],[],_ => rfl
 | .int .u8 e :: l,b :: s,h => by rw [bytesOf] at h; simp [bytesOf_len h.2]
 | [],_ :: _,h => by simp [bytesOf] at h
 | x :: l,[],h => by cases x <;> simp [bytesOf] at h
 | .int .i8 _ :: _,_ :: _,h => by simp [bytesOf] at h
 | .int .i16 _ :: _,_ :: _,h => by simp [bytesOf] at h
 | .int .i32 _ :: _,_ :: _,h => by simp [bytesOf] at h
 | .int .i64 _ :: _,_ :: _,h => by simp [bytesOf] at h
 | .int .u16 _ :: _,_ :: _,h => by simp [bytesOf] at h
 | .int .u32 _ :: _,_ :: _,h => by simp [bytesOf] at h
 | .int .u64 _ :: _,_ :: _,h => by simp [bytesOf] at h
 | .bool _ :: _,_ :: _,h => by simp [bytesOf] at h
 | .str _ :: _,_ :: _,h => by simp [bytesOf] at h
 | .nilp :: _,_ :: _,h => by simp [bytesOf] at h
 | .nils :: _,_ :: _,h => by simp [bytesOf] at h
 | .nilif :: _,_ :: _,h => by simp [bytesOf] at h
 | .nilfn :: _,_ :: _,h => by simp [bytesOf] at h
 | .nilm :: _,_ :: _,h => by simp [bytesOf] at h
 | .fn _ :: _,_ :: _,h => by simp [bytesOf] at h
 | .vsl _ _ _ :: _,_ :: _,h => by simp [bytesOf] at h
 | .vp _ _ _ :: _,_ :: _,h => by simp [bytesOf] at h
 | .undef :: _,_ :: _,h => by simp [bytesOf] at h
theorem bytesOf_get : ∀ {l : List PV} {s : List UInt8},bytesOf l s → ∀ (j : Nat) (b : UInt8),s[j]? = some b → ∃ e : I,l[j]? = some (.int .u8 e) ∧ e.val = (b.toNat : Int)
 | [],[],_,j,b,hj => by simp at hj
 | .int .u8 e :: l,b :: s,h,j,b',hj => by
  rw [bytesOf] at h
  cases j with
  | zero => simp at hj; subst hj; exact ⟨e,rfl,h.1⟩
  | succ j => simp at hj; obtain ⟨e',h1,h2⟩ := bytesOf_get h.2 j b' hj; exact ⟨e',by simpa using h1,h2⟩
 | l,[],h,j,b,hj => by simp at hj
 | [],_ :: _,h,_,_,_ => by simp [bytesOf] at h
 | .int .i8 _ :: _,_ :: _,h,_,_,_ => by simp [bytesOf] at h
 | .int .i16 _ :: _,_ :: _,h,_,_,_ => by simp [bytesOf] at h
 | .int .i32 _ :: _,_ :: _,h,_,_,_ => by simp [bytesOf] at h
 | .int .i64 _ :: _,_ :: _,h,_,_,_ => by simp [bytesOf] at h
 | .int .u16 _ :: _,_ :: _,h,_,_,_ => by simp [bytesOf] at h
 | .int .u32 _ :: _,_ :: _,h,_,_,_ => by simp [bytesOf] at h
 | .int .u64 _ :: _,_ :: _,h,_,_,_ => by simp [bytesOf] at h
 | .bool _ :: _,_ :: _,h,_,_,_ => by simp [bytesOf] at h
 | .str _ :: _,_ :: _,h,_,_,_ => by simp [bytesOf] at h
 | .nilp :: _,_ :: _,h,_,_,_ => by simp [bytesOf] at h
 | .nils :: _,_ :: _,h,_,_,_ => by simp [bytesOf] at h
 | .nilif :: _,_ :: _,h,_,_,_ => by simp [bytesOf] at h
 | .nilfn :: _,_ :: _,h,_,_,_ => by simp [bytesOf] at h
 | .nilm :: _,_ :: _,h,_,_,_ => by simp [bytesOf] at h
 | .fn _ :: _,_ :: _,h,_,_,_ => by simp [bytesOf] at h
 | .vsl _ _ _ :: _,_ :: _,h,_,_,_ => by simp [bytesOf] at h
 | .vp _ _ _ :: _,_ :: _,h,_,_,_ => by simp [bytesOf] at h
 | .undef :: _,_ :: _,h,_,_,_ => by simp [bytesOf] at h
theorem push_all : ∀ (s : List UInt8) (r : ByteArray),(s.map fun b => (b.toNat : Int)).foldl (fun r n => r.push (UInt8.ofNat n.toNat)) r = ByteArray.mk (r.data ++ s.toArray)
 | [],r => by simp
 | b :: s,r => by
  rw [List.map_cons,List.foldl_cons,push_all s]
  apply congrArg
  have : UInt8.ofNat b.toNat = b := by simp
  simp [ByteArray.push,this]
theorem bytes_run {a0 : Addr} {n cp : Nat} {s : List UInt8} (hl : s.length = n) (h : ∀ (j : Nat) (b : UInt8),s[j]? = some b → w.cell? (a0.add j) = some (.int .u8 (b.toNat : Int))) :
  (Conv.bytesToString (.slice (some a0) n cp)).run P w = .ok (.string (ByteArray.mk s.toArray)) w := by
 have hld : (loadCells a0 n).run P w = .ok ((s.map fun b => (b.toNat : Int)).map (Value.int .u8)).toArray w := by
  have := run_loadCells_list (P := P) w a0 ((s.map fun b => (b.toNat : Int)).map (Value.int .u8)) (fun j v hj => by
   simp only [List.getElem?_map] at hj
   cases e : s[j]? with
   | none => rw [e] at hj; cases hj
   | some b => rw [e] at hj; cases hj; exact h j b e)
  simpa [hl] using this
 rw [run_bytesToString w a0 n cp _ hld,push_all]
 simp [ByteArray.empty,ByteArray.emptyWithCapacity]
 rfl
theorem bytes_cells {n : Nat} {l : List PV} {s : List UInt8} (hb : bytesOf (l.take n) s) (hn : n ≤ l.length) : s.length = n ∧ ∀ (j : Nat) (b : UInt8),s[j]? = some b → ∃ e : I,l[j]? = some (.int .u8 e) ∧ e.val = (b.toNat : Int) := by
 refine ⟨by rw [← bytesOf_len hb,List.length_take]; omega,fun j b hj => ?_⟩
 obtain ⟨e,h1,h2⟩ := bytesOf_get hb j b hj
 rw [List.getElem?_take] at h1
 split at h1
 ·exact ⟨e,h1,h2⟩
 ·cases h1
theorem toStr_sound (hT : TOK P T) {ts : TI} {x : LV} {v : Value} {L : (Unit → ByteArray) → Prop} (hs : St c s a w) (hx : LR c w x v) (h : toStr T s ts x L) :
  ∃ e te,∃ k : IntKind,∃ y : Unit → ByteArray,ts.kind = .slice e ∧ lget T e = some te ∧ te.kind = .int .u8 ∧ (∃ ad n cp,v = .slice ad n cp ∧ (Conv.bytesToString (.slice ad n cp)).run P w = .ok (.string (y ())) w) ∧ L y := by
 unfold toStr at h
 split at h
 case h_2 => exact h.elim
 rename_i e he
 split at h
 case h_2 => exact h.elim
 rename_i te hte
 split at h
 case h_2 => exact h.elim
 rename_i k hk
 split at h
 case h_2 => exact h.elim
 rename_i hk8
 have hk8 := of_decide_eq_true hk8
 subst hk8
 suffices hh : ∃ y : Unit → ByteArray,(∃ ad n cp,v = .slice ad n cp ∧ (Conv.bytesToString (.slice ad n cp)).run P w = .ok (.string (y ())) w) ∧ L y by
  obtain ⟨y,h1,h2⟩ := hh
  exact ⟨e,te,.u8,y,he,hte,hk,h1,h2⟩
 split at h
 ·cases hx with
  | p _ _ hp => cases hp; exact ⟨_,⟨none,0,0,rfl,by (simp [Conv.bytesToString,ByteArray.empty,ByteArray.emptyWithCapacity]; rfl)⟩,h⟩
 ·rename_i n sy l
  obtain ⟨hl,h⟩ := need h
  cases h with
  | mk st hb hk2 =>
   have hb : bytesOf (l.take n.val.toNat) st := hb
   have hK := hk2 _ rfl
   cases hx with
   | p _ _ hp =>
    cases hp with
    | vsl0 _ _ _ ad cp h0 _ =>
     obtain ⟨h1,h2⟩ := bytes_cells hb (by omega)
     have hst : st = [] := List.eq_nil_of_length_eq_zero (by omega)
     subst hst
     refine ⟨_,⟨ad,0,cp,rfl,?_⟩,hK⟩
     cases ad with
     | none => (simp [Conv.bytesToString,ByteArray.empty,ByteArray.emptyWithCapacity]; rfl)
     | some ad => exact bytes_run (s := []) rfl (fun j b hj => by simp at hj)
    | vsl _ _ _ ad n' cp g hn hsp hM hlt hle hcp hcell hrel =>
     obtain ⟨h1,h2⟩ := bytes_cells hb (by omega)
     refine ⟨_,⟨some ad,n',cp,rfl,bytes_run (by omega) fun j b hj => ?_⟩,hK⟩
     obtain ⟨e1,h3,h4⟩ := h2 j b hj
     rw [hcell j _ h3]
     have := hrel j _ h3
     generalize g j = gj at this
     cases this with | int _ _ m hm => rw [← hm,h4]
 ·rename_i b e1 sz o' n
  cases hB : hget s.h b with
  | none => rw [hB] at h; exact h.elim
  | some B =>
   rw [hB] at h
   cases B with
   | mix l => exact h.elim
   | iter z p => exact h.elim
   | set l => exact h.elim
   | kv l vs => exact h.elim
   | frz l => exact h.elim
   | fix g o => exact h.elim
   | bld t l => exact h.elim
   | pure sy l =>
    cases o' with
    | sym j => exact h.elim
    | lit j =>
     dsimp only at h
     cases hj0 : decide (j = 0) with
     | false => rw [hj0] at h; exact h.elim
     | true =>
      rw [hj0] at h
      have hj0 := of_decide_eq_true hj0
      obtain ⟨hl,h⟩ := need h
      cases h with
      | mk st hb hk2 =>
       have hb : bytesOf (l.take n.val.toNat) st := hb
       have hK := hk2 _ rfl
       obtain ⟨m0,hm0,hBR⟩ := hs.hr.live b _ hB
       cases hx with
       | goneS _ _ _ _ _ _ _ _ hm' _ => rw [hm0] at hm'; cases hm'
       | slz _ _ _ _ _ _ _ _ _ ho' _ _ h0' => exfalso; rw [hj0] at ho'; simp only [I.val] at ho'; omega
       | slv _ _ _ _ _ hm' ho' hn' =>
        obtain ⟨h1,h2⟩ := bytes_cells hb (by omega)
        have hst : st = [] := List.eq_nil_of_length_eq_zero (by omega)
        subst hst
        exact ⟨_,⟨none,0,0,rfl,by (simp [Conv.bytesToString,ByteArray.empty,ByteArray.emptyWithCapacity]; rfl)⟩,hK⟩
       | sl _ _ _ _ _ r j' k' cp tot hm' ho' hn' hk' hc hs' ht' =>
        rw [hm'] at hm0; cases hm0
        obtain ⟨cur,ty,hg,hle,hrel⟩ := hBR
        have hj' : j' = 0 := by rw [hj0] at ho'; simp only [I.val] at ho'; omega
        subst hj'
        obtain ⟨h1,h2⟩ := bytes_cells hb (by omega)
        refine ⟨_,⟨_,k',cp,rfl,bytes_run (by omega) fun j b hj => ?_⟩,hK⟩
        obtain ⟨e1,h3,h4⟩ := h2 j b hj
        have hlt := (List.getElem?_eq_some_iff.1 h3).1
        rw [add_lit]
        simp only [World.cell?,hg,Nat.zero_add]
        have := hrel j _ h3
        rw [Array.getD_eq_getD_getElem?,Array.getElem?_eq_getElem (by omega : j < cur.size)] at this
        rw [Array.getElem?_eq_getElem (by omega : j < cur.size)]
        simp only [Option.getD_some] at this
        generalize cur[j] = gj at this
        cases this with | int _ _ m hm => rw [← hm,h4]; rfl
 ·exact h.elim
theorem lop_convInt (hT : TOK P T) {src dst : TypeId} {x : Operand} {ts ti : TI} {k k' : IntKind} {e : I} (hts : lget T src = some ts) (ht : lget T dst = some ti) (ho : o.op = .convert src dst x) (hs : St c s a w) (hk : ti.kind = .int k)
  (h : match e with
    | .lit n => K (s.put o.dst (.p (.int k (.lit (k.wrap n)))))
    | .sym n => Fit k (fun _ => n) fun z => K (s.put o.dst (.p (.int k z)))) (hev : ev s x = .p (.int k' e)) : o.wp P a w (Post K c w) Q := by
 have hx := hs.ev x
 obtain ⟨d,hu,hkd⟩ := tok_under (hT dst ti ht)
 obtain ⟨d',hu',hkd'⟩ := tok_under (hT src ts hts)
 rw [hk] at hkd
 rw [hev] at hx
 have hv := hx.inv_int
 cases d <;> try exact hkd.elim
 have hkd : k = _ := hkd
 subst hkd
 have key : ∃ z : I,z.val = k.wrap e.val ∧ K (s.put o.dst (.p (.int k z))) := by
  cases e
  ·exact ⟨_,rfl,h⟩
  ·exact fit h
 obtain ⟨z,hz,hK⟩ := key
 refine op_val hs (v := .int k z.val) ?_ (LR.of_int _ _) hK
 unfold execOp; rw [ho]
 exact runv (by cases d' <;> simp [convert,run_underlying hu,run_underlying hu',hv,Conv.intToInt,hz])
theorem lop_convRune (hT : TOK P T) {src dst : TypeId} {x : Operand} {ts ti : TI} {k' : IntKind} {e : I} (hts : lget T src = some ts) (ht : lget T dst = some ti) (ho : o.op = .convert src dst x) (hs : St c s a w) (hk : ti.kind = .str) (hev : ev s x = .p (.int k' e))
  (h : Str (fun _ => Utf8.encode e.val) fun z => K (s.put o.dst (.p (.str z)))) : o.wp P a w (Post K c w) Q := by
 have hx := hs.ev x
 obtain ⟨d,hu,hkd⟩ := tok_under (hT dst ti ht)
 obtain ⟨d',hu',hkd'⟩ := tok_under (hT src ts hts)
 rw [hk] at hkd
 rw [hev] at hx
 have hv := hx.inv_int
 cases d <;> try exact hkd.elim
 obtain ⟨yy,hyy,hK⟩ := str h
 refine op_val hs (v := .string (yy ())) ?_ (LR.of_str yy) hK
 unfold execOp; rw [ho]
 exact runv (by cases d' <;> simp [convert,run_underlying hu,run_underlying hu',hv,Conv.intToString,hyy])
theorem lop_convStr (hT : TOK P T) {src dst : TypeId} {x : Operand} {ts ti : TI} {z : Unit → ByteArray} (hts : lget T src = some ts) (ht : lget T dst = some ti) (ho : o.op = .convert src dst x) (hs : St c s a w) (hk : ti.kind = .str) (hev : ev s x = .p (.str z))
  (h : K (s.put o.dst (.p (.str z)))) : o.wp P a w (Post K c w) Q := by
 have hx := hs.ev x
 obtain ⟨d,hu,hkd⟩ := tok_under (hT dst ti ht)
 obtain ⟨d',hu',hkd'⟩ := tok_under (hT src ts hts)
 rw [hk] at hkd
 rw [hev] at hx
 have hv := hx.inv_str
 cases d <;> try exact hkd.elim
 refine op_val hs (v := .string (z ())) ?_ (LR.of_str _) h
 unfold execOp; rw [ho]
 exact runv (by cases d' <;> simp [convert,run_underlying hu,run_underlying hu',hv])
theorem lop_convBytes (hT : TOK P T) {src dst : TypeId} {x : Operand} {ts ti : TI} (hts : lget T src = some ts) (ht : lget T dst = some ti) (ho : o.op = .convert src dst x) (hs : St c s a w) (hk : ti.kind = .str)
  (h : toStr T s ts (ev s x) fun z => K (s.put o.dst (.p (.str z)))) : o.wp P a w (Post K c w) Q := by
 have hx := hs.ev x
 obtain ⟨d,hu,hkd⟩ := tok_under (hT dst ti ht)
 obtain ⟨d',hu',hkd'⟩ := tok_under (hT src ts hts)
 rw [hk] at hkd
 cases d <;> try exact hkd.elim
 obtain ⟨e,te,k,y,hke,hte,hkt,hrun,hK⟩ := toStr_sound hT hs hx h
 rw [hke] at hkd'
 cases d' <;> try exact hkd'.elim
 have hkd' : e = _ := hkd'
 subst hkd'
 obtain ⟨dd,huu,hkk⟩ := tok_under (hT e te hte)
 rw [hkt] at hkk
 cases dd <;> try exact hkk.elim
 have hkk : IntKind.u8 = _ := hkk
 subst hkk
 refine op_val hs (v := .string (y ())) ?_ (LR.of_str y) hK
 unfold execOp; rw [ho]
 refine runv ?_
 obtain ⟨ad,n,cp,hv,hr⟩ := hrun
 rw [hv]
 simp only [run_convert_bytes_string w src dst e ad n cp hu' huu hu]
 exact hr
theorem lop_makeInterface (hT : TOK P T) {t : TypeId} {x : Operand} {ti : TI} (ht : lget T t = some ti) (hk : ti.kind ≠ .iface) (ho : o.op = .makeInterface t x) (hs : St c s a w) (h : K (s.put o.dst (.iface t (ev s x)))) : o.wp P a w (Post K c w) Q := by
 obtain ⟨d,hu,hkd⟩ := tok_under (hT t ti ht)
 refine op_val hs (v := .iface t (a.eval x)) ?_ (.iface _ _ _ (hs.ev x)) h
 unfold execOp; rw [ho]
 refine runv ?_
 cases hkk : ti.kind <;> rw [hkk] at hkd <;> cases d <;> first | exact hkd.elim | exact absurd hkk hk | simp [Instr.makeInterface,run_underlying hu]
theorem lop_extract {x : Operand} {i : Nat} {l : List LV} {v : LV} (ho : o.op = .extract x i) (hs : St c s a w) (hx0 : ev s x = .tup l) (hl : lnth l i = some v) (h : K (s.put o.dst v)) : o.wp P a w (Post K c w) Q := by
 have hx := hs.ev x
 rw [hx0] at hx
 generalize hvx : a.eval x = vx at hx
 cases hx with
 | tup _ xs hlen hr =>
  rw [lnth_eq] at hl
  obtain ⟨y,h1,h2⟩ := (Rel2.ofD hlen hr).2 i v hl
  refine op_val hs ?_ h2 h
  unfold execOp; rw [ho]
  have h1' : xs[i]? = some y := by simpa using h1
  exact runv (by simp [hvx,Instr.extract,h1'])
theorem ofZero {t : Nat} {ti : TI} (hT : TIok P t ti) {L : LV → Prop} (h : ofCells ti.kind (pvs ti.zero) L) : ∃ u v,(∀ w,(zeroValue t).run P w = .ok v w) ∧ LR c w u v ∧ L u := by
 obtain ⟨⟨i,z,d,hi,hsz,_,hz,hzc,hu,hkd,hag,hsc⟩,hzs⟩ := hT
 have hrun : ∀ w,(zeroValue t).run P w = .ok z w := fun w => by simp [zeroValue,typeInfo,hi,hz]
 have hrel : Rel2 c w (pvs ti.zero) z.cells.toList := by rw [hzc]; exact zero_rel c w _ hzs
 unfold ofCells at h
 cases hk : ti.kind.agg with
 | true =>
  rw [hk] at h
  refine ⟨_,z,hrun,?_,h⟩
  rw [hag hk]
  exact .agg _ _ hrel.getD.1 hrel.getD.2
 | false =>
  rw [hk] at h
  dsimp only at h
  split at h
  ·rename_i v e
   rw [e,hsc hk] at hrel
   obtain ⟨y,ys,he,h3,_⟩ := hrel.head
   cases he
   exact ⟨_,z,hrun,h3,h⟩
  ·exact h.elim
theorem lop_typeAssert (hT : TOK P T) {xt t : TypeId} {x : Operand} {ti : TI} (ht : lget T t = some ti) (hk : ti.kind ≠ .iface) (ho : o.op = .typeAssert x xt t true) (hs : St c s a w)
  (h : match ev s x with
     | .iface u v => match Nat.beq u t with
      | true => K (s.put o.dst (.tup [v,.p (.bool true)]))
      | false => ofCells ti.kind (pvs ti.zero) fun z => K (s.put o.dst (.tup [z,.p (.bool false)]))
     | .p .nilif => ofCells ti.kind (pvs ti.zero) fun z => K (s.put o.dst (.tup [z,.p (.bool false)]))
     | _ => False) : o.wp P a w (Post K c w) Q := by
 have hx := hs.ev x
 obtain ⟨d,hu,hkd⟩ := tok_under (hT t ti ht)
 have hd : ∀ m,d ≠ .interface m := by
  intro m e
  subst e
  cases hkk : ti.kind <;> rw [hkk] at hkd <;> first | exact hkd.elim | exact absurd hkk hk
 have tup2 : ∀ {u v} (b : Bool),LR c w u v → LR c w (.tup [u,.p (.bool b)]) (.tuple #[v,.bool b]) := by
  intro u v b h
  exact .tup _ _ rfl (Rel2.getD (x := #[v,.bool b]) (Rel2.cons h (Rel2.cons (LR.of_bool b) Rel2.nil))).2
 split at h
 ·rename_i u v hev
  rw [hev] at hx
  generalize hvx : a.eval x = vx at hx
  cases hx with
  | iface _ _ y hy =>
   cases e : Nat.beq u t with
   | true =>
    rw [e] at h
    have e := Nat.eq_of_beq_eq_true e
    refine op_val hs ?_ (tup2 true hy) h
    unfold execOp; rw [ho]
    refine runv ?_
    cases d <;> first | exact absurd rfl (hd _) | simp [Instr.typeAssert,run_underlying hu,hvx,e]
   | false =>
    rw [e] at h
    have e : ¬ u = t := fun h => by rw [h,Nat.beq_refl] at e; cases e
    obtain ⟨z,zv,h1,h2,h3⟩ := ofZero (c := c) (w := w) (hT t ti ht) h
    refine op_val hs ?_ (tup2 false h2) h3
    unfold execOp; rw [ho]
    refine runv ?_
    cases d <;> first | exact absurd rfl (hd _) | simp [Instr.typeAssert,run_underlying hu,hvx,e,h1]
 ·rename_i hev
  rw [hev] at hx
  have hvx : a.eval x = .nilIface := by
   generalize a.eval x = vx at hx
   cases hx with | p _ _ hp => cases hp; rfl
  obtain ⟨z,zv,h1,h2,h3⟩ := ofZero (c := c) (w := w) (hT t ti ht) h
  refine op_val hs ?_ (tup2 false h2) h3
  unfold execOp; rw [ho]
  refine runv ?_
  cases d <;> first | exact absurd rfl (hd _) | simp [Instr.typeAssert,run_underlying hu,hvx,h1]
 ·exact h.elim
theorem lop_range (hT : TOK P T) {t : TypeId} {x : Operand} {ti : TI} {z : Unit → ByteArray} (ht : lget T t = some ti) (hk : ti.kind = .str) (hx0 : ev s x = .p (.str z)) (ho : o.op = .range t x) (hs : St c s a w) (h : K ((s.new (.iter z (.lit 0))).put o.dst (.ptr s.n (.lit 0)))) : o.wp P a w (Post K c w) Q := by
 have hx : a.eval x = .string (z ()) := LR.inv_str (hx0 ▸ hs.ev x)
 obtain ⟨d,hu,hkd⟩ := tok_under (hT t ti ht)
 rw [hk] at hkd
 cases d <;> try exact hkd.elim
 have hr : (execOp a.eval o).run P w = .ok (.value (.pointer (some ⟨w.heap.size,0,none⟩))) (w.alloc (.stringIter (z ()) 0)) := by
  unfold execOp; rw [ho]
  exact runv (by simp [Instr.range,run_underlying hu,hx])
 refine op_world hs hr (Ext.alloc hs.hr _) (hs.hr.alloc _ (.iter z (.lit 0)) ⟨0,rfl,heap_alloc_new w _⟩) (show c.N + 1 = s.n + 1 by rw [hs.nn]) (u := .ptr s.n (.lit 0)) ?_ (by rw [hs.nn]; exact h)
 rw [← hs.nn]; exact .ptr _ _ _ 0 (grow_new c _) rfl
theorem nextS {z : Unit → ByteArray} {pos : Unit → Int} {L : Option (I × I) → Prop} (h : NextS z pos L) : (((z ()).size : Int) ≤ pos () ∧ L none) ∨ (pos () < (z ()).size ∧ ∃ r p : I,r.val = ((Utf8.decode (z ()) (pos ()).toNat).1 : Int) ∧ p.val = pos () + ((Utf8.decode (z ()) (pos ()).toNat).2 : Int) ∧ L (some (r,p))) := by
 cases h with
 | over h k => exact .inl ⟨h,k⟩
 | more h k => exact .inr ⟨h,.sym _,.sym _,rfl,rfl,k _ _ rfl rfl⟩
 | lit h r p h1 h2 k => exact .inr ⟨h,.lit r,.lit p,h1.symm,h2.symm,k⟩
theorem Turn.set {w : World} {r : Nat} {B' : Obj} (hlt : r < w.heap.size) (h1 : w.shape? r = none) (h2 : ∀ c e f,B' ≠ .cells c e f) : Turn w { w with heap := w.heap.setIfInBounds r B' } r := by
 refine ⟨rfl,rfl,rfl,by simp,fun k hk => ?_,?_⟩
 ·simp only [Array.getElem?_setIfInBounds]
  rw [if_neg (fun h => hk h.symm)]
 ·rw [h1]
  simp only [World.shape?,Array.getElem?_setIfInBounds,if_pos,hlt]
  cases B' <;> first | exact absurd rfl (h2 _ _ _) | rfl
theorem lop_next {x : Operand} {z : Unit → ByteArray} {pos : I} {b : Nat} {m : Int} (ho : o.op = .next x true) (hs : St c s a w) (hm0 : m = 0) (hx0 : ev s x = .ptr b (.lit m)) (hB : hget s.h b = some (.iter z pos))
  (h : NextS z (fun _ => pos.val) fun r => match r with
     | none => K (s.put o.dst (.tup [.p (.bool false)]))
     | some (c,p) => K (LS.put { s with h := hset s.h b (.iter z p) } o.dst (.tup [.p (.bool true),.p (.int .i64 pos),.p (.int .i32 c)]))) : o.wp P a w (Post K c w) Q := by
 have hx := hs.ev x
 rw [hx0] at hx
 obtain ⟨m',hm',hBR⟩ := hs.hr.live b _ hB
 obtain ⟨r,k,hm,hk,hvx⟩ := live_ptr hs hx hB
 rw [hm] at hm'; cases hm'
 obtain ⟨p,hp,hg⟩ := hBR
 have hlt : r < w.heap.size := hs.hr.lt b r hm
 have hsh : w.shape? r = none := by simp only [World.shape?,hg]
 have hgo : (getObj r).run P w = .ok (.stringIter (z ()) p) w := by simp [getObj,Sem.run,hg]
 have key : k = 0 := by rw [hm0] at hk; simp only [I.val] at hk; omega
 subst key
 rcases nextS h with ⟨h1,h2⟩ | ⟨h1,ch,np,h2,h3,h4⟩
 ·have hnp : ¬ p < (z ()).size := by omega
  refine op_val hs (v := .tuple #[.bool false]) ?_ (.tup _ _ rfl (Rel2.getD (x := #[.bool false]) (Rel2.cons (LR.of_bool _) Rel2.nil)).2) h2
  unfold execOp; rw [ho]
  exact runv (by simp [Instr.next,hvx,hgo,hnp])
 ·have hnp : p < (z ()).size := by omega
  rw [hp,Int.toNat_natCast] at h2 h3
  have ht := Turn.set (w := w) (B' := .stringIter (z ()) (p + (Utf8.decode (z ()) p).2)) hlt hsh (fun _ _ _ h => by cases h)
  refine op_world hs (v := .tuple #[.bool true,goInt p,.int .i32 (Utf8.decode (z ()) p).1]) ?_ (Ext.turn hs.hr hm ht) (hs.hr.turn hB hm ht (B' := .iter z np) ?_) hs.nn (.tup _ _ rfl (Rel2.getD (x := #[.bool true,goInt p,.int .i32 (Utf8.decode (z ()) p).1]) (Rel2.cons (LR.of_bool _) (Rel2.cons ?_ (Rel2.cons ?_ Rel2.nil)))).2) h4
  ·unfold execOp; rw [ho]
   refine runv ?_
   simp [Instr.next,hvx,hgo,hnp,setObj,Sem.run,hg]
  ·refine ⟨p + (Utf8.decode (z ()) p).2,by rw [h3]; simp,?_⟩
   simp only [Array.getElem?_setIfInBounds,if_pos,hlt]
  ·have := LR.of_int (c := c) (w := { w with heap := w.heap.setIfInBounds r (.stringIter (z ()) (p + (Utf8.decode (z ()) p).2)) }) .i64 pos
   rw [hp] at this; exact this
  ·have := LR.of_int (c := c) (w := { w with heap := w.heap.setIfInBounds r (.stringIter (z ()) (p + (Utf8.decode (z ()) p).2)) }) .i32 ch
   rw [h2] at this; exact this
theorem tk_of {t : Nat} {k : TK} (hT : TOK P T) (h : tkOf T t = k) (hk : k ≠ .other) : ∃ ti d,lget T t = some ti ∧ ti.kind = k ∧ P.underlying t = some d ∧ kindOk P k d := by
 unfold tkOf at h
 split at h
 ·rename_i ti ht
  obtain ⟨d,hu,hkd⟩ := tok_under (hT t ti ht)
  rw [h] at hkd
  exact ⟨ti,d,ht,h,hu,hkd⟩
 ·exact absurd h.symm hk
theorem lop_arr (hT : TOK P T) {t ar : TypeId} {x : Operand} {lo hi : Option Operand} {ti : TI} (ht : lget T t = some ti) (hk : ti.kind = .ptr ar) (ho : o.op = .slice t x lo hi none) (hs : St c s a w)
  (h : arrL T s ar (ev s x) lo.isSome hi.isSome fun v => K (s.put o.dst v)) : o.wp P a w (Post K c w) Q := by
 have hx := hs.ev x
 obtain ⟨d,hu,hkd⟩ := tok_under (hT t ti ht)
 rw [hk] at hkd
 cases d <;> try exact hkd.elim
 rename_i e'
 have hkd : ar = e' := hkd
 subst hkd
 unfold arrL at h
 split at h
 ·rename_i n e hlo hhi hka
  obtain ⟨ta,da,hta,hka2,hua,hkda⟩ := tk_of hT hka (by simp)
  cases da <;> try exact hkda.elim
  rename_i n' e'
  obtain ⟨rfl,rfl,hie⟩ := hkda
  obtain ⟨ie,hie⟩ := Option.isSome_iff_exists.1 hie
  have hlo : lo = none := by cases lo with | none => rfl | some _ => cases hlo
  have hhi : hi = none := by cases hi with | none => rfl | some _ => cases hhi
  subst hlo hhi
  split at h
  ·rename_i hn
   have hn := Nat.le_of_ble_eq_true hn
   split at h
   ·rename_i b o' hev
    rw [hev] at hx
    cases hB : hget s.h b with
    | none => rw [hB] at h; exact h.elim
    | some B =>
     rw [hB] at h
     obtain ⟨r,k,hm,hko,hv⟩ := live_ptr hs hx hB
     refine op_val hs (v := .slice (some ⟨r,k,none⟩) n n) ?_ (.sla _ _ _ r k n n hm hko rfl (Nat.le_refl _) (by unfold maxLen; omega)) h
     unfold execOp; rw [ho]
     refine runv ?_
     by_cases h0 : n = 0
     ·subst h0
      simp [Instr.sliceAt,Instr.sureAddr,Instr.slice,run_underlying hu,run_underlying hua,hv,asAddr,Instr.sliceBounds,sizeOf,typeInfo,hie]
     ·have h0' : ¬ 0 = n := fun h => h0 h.symm
      simp [Instr.sliceAt,Instr.sureAddr,Instr.slice,run_underlying hu,run_underlying hua,hv,asAddr,Instr.sliceBounds,sizeOf,typeInfo,hie,Addr.add]
   ·exact h.elim
  ·exact h.elim
 ·exact h.elim
theorem lop_arr2 (hT : TOK P T) {t : TypeId} {x : Operand} {lo hi : Option Operand} (ho : o.op = .slice t x lo hi none) (hs : St c s a w)
  (h : arrL T s t (ev s x) lo.isSome hi.isSome fun v => K (s.put o.dst v)) : o.wp P a w (Post K c w) Q := by
 have hx := hs.ev x
 unfold arrL at h
 split at h
 ·rename_i n e hlo hhi hka
  obtain ⟨ta,da,hta,hka2,hua,hkda⟩ := tk_of hT hka (by simp)
  cases da <;> try exact hkda.elim
  rename_i n' e'
  obtain ⟨rfl,rfl,hie⟩ := hkda
  obtain ⟨ie,hie⟩ := Option.isSome_iff_exists.1 hie
  have hlo : lo = none := by cases lo with | none => rfl | some _ => cases hlo
  have hhi : hi = none := by cases hi with | none => rfl | some _ => cases hhi
  subst hlo hhi
  split at h
  ·rename_i hn
   have hn := Nat.le_of_ble_eq_true hn
   split at h
   ·rename_i b o' hev
    rw [hev] at hx
    cases hB : hget s.h b with
    | none => rw [hB] at h; exact h.elim
    | some B =>
     rw [hB] at h
     obtain ⟨r,k,hm,hko,hv⟩ := live_ptr hs hx hB
     refine op_val hs (v := .slice (some ⟨r,k,none⟩) n n) ?_ (.sla _ _ _ r k n n hm hko rfl (Nat.le_refl _) (by unfold maxLen; omega)) h
     unfold execOp; rw [ho]
     refine runv ?_
     by_cases h0 : n = 0
     ·subst h0
      simp [Instr.sliceAt,Instr.sureAddr,Instr.slice,run_underlying hua,hv,asAddr,Instr.sliceBounds,sizeOf,typeInfo,hie]
     ·have h0' : ¬ 0 = n := fun h => h0 h.symm
      simp [Instr.sliceAt,Instr.sureAddr,Instr.slice,run_underlying hua,hv,asAddr,Instr.sliceBounds,sizeOf,typeInfo,hie,Addr.add]
   ·exact h.elim
  ·exact h.elim
 ·exact h.elim
theorem lop_makeMap (hT : TOK P T) {t k e : Nat} (hk : tkOf T t = .map k e) (ho : o.op = .makeMap t none) (hs : St c s a w) (h : K ((s.new (emptyM T e)).put o.dst (.mp s.n))) : o.wp P a w (Post K c w) Q := by
 have hr : (execOp a.eval o).run P w = .ok (.value (.map (some w.heap.size))) (w.alloc (.map #[] 0)) := by
  unfold execOp; rw [ho]
  exact runv (by simp [Instr.makeMap,newObj,Sem.run])
 have hB : BR (c.grow (some w.heap.size)) (w.alloc (.map #[] 0)) (emptyM T e) (some w.heap.size) := by
  unfold emptyM
  split
  ·split
   ·exact ⟨#[],0,heap_alloc_new w _,rfl,rfl⟩
   ·exact ⟨#[],0,heap_alloc_new w _,rfl,fun e he => by simp at he⟩
  ·exact ⟨#[],0,heap_alloc_new w _,rfl,fun e he => by simp at he⟩
 refine op_world hs hr (Ext.alloc hs.hr _) (hs.hr.alloc _ (emptyM T e) hB) (show c.N + 1 = s.n + 1 by rw [hs.nn]) (u := .mp s.n) ?_ (by rw [hs.nn]; exact h)
 rw [← hs.nn]; exact .mp _ _ (grow_new c _)
theorem isI64_eq {ti : TI} (h : isI64 ti = true) : ti.kind = .int .i64 := by
 unfold isI64 at h
 split at h
 ·rename_i k hk
  cases k <;> first | exact hk | cases h
 ·cases h
theorem findNow_set (n : Int) : ∀ (es : List MapEntry) (i : Nat) (l : List Int),es.map (·.key) = l.map (fun n => Value.int .i64 n) → (∀ e ∈ es,e.val = .agg #[]) →
  ∃ j,Instr.findNow (.int .i64) (.int .i64 n) es i = some (if n ∈ l then some (j,.agg #[]) else none)
 | [],i,l,h,_ => by
  cases l with
  | nil => exact ⟨0,rfl⟩
  | cons x l => simp at h
 | e :: es,i,l,h,hv => by
  cases l with
  | nil => simp at h
  | cons x l =>
   simp only [List.map_cons,List.cons.injEq] at h
   obtain ⟨h1,h2⟩ := h
   obtain ⟨j,hj⟩ := findNow_set n es (i + 1) l h2 (fun e he => hv e (List.mem_cons_of_mem _ he))
   have he := hv e (List.mem_cons_self ..)
   by_cases hx : n = x
   ·refine ⟨i,?_⟩
    simp [Instr.findNow,h1,Instr.sameNow,hx,he]
   ·refine ⟨j,?_⟩
    have hxb : (n == x) = false := by simpa using hx
    simp only [Instr.findNow,h1,Instr.sameNow,if_true,hxb,hj]
    simp [hx]
theorem run_getMap {r : Nat} {es : Array MapEntry} {ck : Nat} (h : w.heap[r]? = some (.map es ck)) : (getObj r).run P w = .ok (.map es ck) w := by
 simp [getObj,Sem.run,h]
theorem run_checkKey {k : Nat} {d : TypeDesc} {b : Bool} {n : Int} (hu : P.underlying k = some d) (hd : d = .int .i64) : (Instr.checkKey b 10000 k (.int .i64 n)).run P w = .ok () w := by
 subst hd
 show (Instr.checkKey b (9999 + 1) k (.int .i64 n)).run P w = _
 generalize 9999 = m
 rw [Instr.checkKey,Sem.run_bind,run_underlying hu]
 rfl
theorem lop_lookup (hT : TOK P T) {t k e : Nat} {x i : Operand} (hk : tkOf T t = .map k e) (ho : o.op = .lookup t x i true) (hs : St c s a w) (h : lookL T s k e (ev s x) (ev s i) fun v => K (s.put o.dst v)) : o.wp P a w (Post K c w) Q := by
 obtain ⟨ti,d,ht,hk2,hu,hkd⟩ := tk_of hT hk (by simp)
 cases d <;> try exact hkd.elim
 rename_i k' e'
 obtain ⟨rfl,rfl⟩ := hkd
 have hx := hs.ev x
 have hi := hs.ev i
 unfold lookL at h
 split at h
 ·rename_i tk te htk hte
  split at h
  ·rename_i h64 hz hag
   obtain ⟨dk,huk,hkk⟩ := tok_under (hT k tk htk)
   rw [isI64_eq h64] at hkk
   cases dk <;> try exact hkk.elim
   rename_i k64
   have hkk : IntKind.i64 = k64 := hkk
   subst hkk
   obtain ⟨⟨ie,z,de,hie,_,_,hze,hzc,_,_,hza,_⟩,_⟩ := hT e te hte
   have hz0 : z = .agg #[] := by
    rw [hza hag]
    congr 1
    rw [hz] at hzc
    apply Array.ext'
    simpa using hzc
   subst hz0
   split at h
   ·rename_i b n hev hevi
    rw [hev] at hx; rw [hevi] at hi
    split at h
    ·rename_i l hB
     obtain ⟨m,hm,hBR⟩ := hs.hr.live b _ hB
     generalize hvx : a.eval x = vx at hx
     have hvi := hi.inv_int
     cases hx with
     | goneM _ _ hm' _ => rw [hm] at hm'; cases hm'
     | mp _ r hm' =>
      rw [hm'] at hm; cases hm
      obtain ⟨es,ck,hg,hkeys,hvals⟩ := hBR
      obtain ⟨bb,hbb,hK⟩ := br h
      obtain ⟨j,hj⟩ := findNow_set n.val es.toList 0 l hkeys hvals
      have hfk : (Instr.findKey k (.int .i64 n.val) es.toList).run P w = .ok (if n.val ∈ l then some (j,.agg #[]) else none) w := by
       simp [Instr.findKey,run_underlying huk,hj]
      refine op_val hs (v := .tuple #[.agg #[],.bool bb]) ?_ (.tup _ _ rfl (Rel2.getD (x := #[.agg #[],.bool bb]) (Rel2.cons (.agg [] #[] rfl (fun j u h => by simp at h)) (Rel2.cons (LR.of_bool bb) Rel2.nil))).2) hK
      unfold execOp; rw [ho]
      refine runv ?_
      have hck := run_checkKey (P := P) (w := w) (b := es.isEmpty) (n := n.val) huk rfl
      by_cases hin : n.val ∈ l
      ·rw [if_pos hin] at hfk
       have : bb = true := hbb.2 hin
       subst this
       simp [Instr.lookup,run_underlying hu,hvx,hvi,run_getMap hg,hck,hfk]
      ·rw [if_neg hin] at hfk
       have : bb = false := by cases bb with | false => rfl | true => exact absurd (hbb.1 rfl) hin
       subst this
       simp [Instr.lookup,run_underlying hu,hvx,hvi,run_getMap hg,hck,hfk,zeroValue,typeInfo,hie,hze]
    ·exact h.elim
   ·exact h.elim
  ·exact h.elim
 ·exact h.elim
theorem findNow_kv (n : Int) : ∀ (es : List MapEntry) (i : Nat) (l m : List Int),es.map (·.key) = l.map (fun n => Value.int .i64 n) → es.map (·.val) = m.map (fun n => Value.int .i64 n) →
  ∃ j,Instr.findNow (.int .i64) (.int .i64 n) es i = some ((kvGet l m n).map fun x => (j,Value.int .i64 x))
 | [],i,l,m,h,h2 => by
  cases l with
  | nil => exact ⟨0,rfl⟩
  | cons x l => simp at h
 | e :: es,i,l,m,h,hv => by
  cases l with
  | nil => simp at h
  | cons x l =>
  cases m with
  | nil => simp at hv
  | cons y m =>
   simp only [List.map_cons,List.cons.injEq] at h hv
   obtain ⟨h1,h2⟩ := h
   obtain ⟨h3,h4⟩ := hv
   obtain ⟨j,hj⟩ := findNow_kv n es (i + 1) l m h2 h4
   by_cases hx : n = x
   ·refine ⟨i,?_⟩
    simp [Instr.findNow,h1,Instr.sameNow,hx,h3,kvGet]
   ·refine ⟨j,?_⟩
    have hxb : (n == x) = false := by simpa using hx
    simp only [Instr.findNow,h1,Instr.sameNow,if_true,hxb,hj,kvGet,decide_eq_false hx]
theorem kvGet_none {n : Int} : ∀ {l m : List Int},¬ n ∈ l → kvGet l m n = none
 | [],m,_ => by cases m <;> rfl
 | a :: l,[],_ => rfl
 | a :: l,v :: m,h => by
  simp only [List.mem_cons,not_or] at h
  simp only [kvGet,decide_eq_false h.1]
  exact kvGet_none h.2
theorem lop_lookupV (hT : TOK P T) {t k e : Nat} {x i : Operand} (hk : tkOf T t = .map k e) (ho : o.op = .lookup t x i false) (hs : St c s a w) (h : lookV T s k e (ev s x) (ev s i) fun v => K (s.put o.dst v)) : o.wp P a w (Post K c w) Q := by
 obtain ⟨ti,d,ht,hk2,hu,hkd⟩ := tk_of hT hk (by simp)
 cases d <;> try exact hkd.elim
 rename_i k' e'
 obtain ⟨rfl,rfl⟩ := hkd
 have hx := hs.ev x
 have hi := hs.ev i
 unfold lookV at h
 split at h
 ·rename_i tk te htk hte
  split at h
  ·rename_i h64 he64
   obtain ⟨dk,huk,hkk⟩ := tok_under (hT k tk htk)
   rw [isI64_eq h64] at hkk
   cases dk <;> try exact hkk.elim
   rename_i k64
   have hkk : IntKind.i64 = k64 := hkk
   subst hkk
   split at h
   ·rename_i b n hev hevi
    rw [hev] at hx; rw [hevi] at hi
    split at h
    ·rename_i l m hB
     obtain ⟨mm,hm,hBR⟩ := hs.hr.live b _ hB
     generalize hvx : a.eval x = vx at hx
     have hvi := hi.inv_int
     cases hx with
     | goneM _ _ hm' _ => rw [hm] at hm'; cases hm'
     | mp _ r hm' =>
      rw [hm'] at hm; cases hm
      obtain ⟨es,ck,hg,hkeys,hvals⟩ := hBR
      cases h with
      | mk xv hxv hK =>
       obtain ⟨j,hj⟩ := findNow_kv n.val es.toList 0 l m hkeys hvals
       rw [hxv] at hj
       have hfk : (Instr.findKey k (.int .i64 n.val) es.toList).run P w = .ok (some (j,.int .i64 xv)) w := by
        simp [Instr.findKey,run_underlying huk,hj]
       refine op_val hs (v := .int .i64 xv) ?_ (LR.of_int .i64 (.sym xv)) hK
       unfold execOp; rw [ho]
       refine runv ?_
       have hck := run_checkKey (P := P) (w := w) (b := es.isEmpty) (n := n.val) huk rfl
       simp [Instr.lookup,run_underlying hu,hvx,hvi,run_getMap hg,hck,hfk]
    ·exact h.elim
   ·exact h.elim
  ·exact h.elim
 ·exact h.elim
theorem updI {l : Unit → List Int} {L : List Int → Prop} (h : UpdI l L) : L (l ()) := by cases h with | mk k => exact k _ rfl
theorem lop_mapUpdate (hT : TOK P T) {t k e : Nat} {x i v : Operand} (hk : tkOf T t = .map k e) (ho : o.op = .mapUpdate t x i v) (hs : St c s a w) (h : intoL T s k (ev s x) (ev s i) (ev s v) fun s' => K (s'.put o.dst .nul)) : o.wp P a w (Post K c w) Q := by
 obtain ⟨ti,d,ht,hk2,hu,hkd⟩ := tk_of hT hk (by simp)
 cases d <;> try exact hkd.elim
 rename_i k' e'
 obtain ⟨rfl,rfl⟩ := hkd
 have hx := hs.ev x
 have hi := hs.ev i
 have hv := hs.ev v
 unfold intoL at h
 split at h
 ·rename_i tk htk
  split at h
  ·rename_i h64 hag
   obtain ⟨dk,huk,hkk⟩ := tok_under (hT k tk htk)
   rw [isI64_eq h64] at hkk
   cases dk <;> try exact hkk.elim
   rename_i k64
   have hkk : IntKind.i64 = k64 := hkk
   subst hkk
   have hvv : a.eval v = .agg #[] := by
    rw [hag] at hv
    generalize a.eval v = vv at hv
    cases hv with
    | agg _ y hl _ =>
     congr 1
     apply Array.ext'
     have : y.size = 0 := hl.symm
     simpa using this
   split at h
   ·rename_i b n hev hevi
    rw [hev] at hx; rw [hevi] at hi
    split at h
    ·rename_i l hB
     obtain ⟨m,hm,hBR⟩ := hs.hr.live b _ hB
     generalize hvx : a.eval x = vx at hx
     have hvi := hi.inv_int
     cases hx with
     | goneM _ _ hm' _ => rw [hm] at hm'; cases hm'
     | mp _ r hm' =>
      have hmb := hm'
      rw [hm'] at hm; cases hm
      obtain ⟨es,ck,hg,hkeys,hvals⟩ := hBR
      obtain ⟨hin,h⟩ := need h
      have hK := updI h
      obtain ⟨j,hj⟩ := findNow_set n.val es.toList 0 l hkeys hvals
      have hfk : (Instr.findKey k (.int .i64 n.val) es.toList).run P w = .ok none w := by
       simp [Instr.findKey,run_underlying huk,hj,if_neg hin]
      have hlt : r < w.heap.size := hs.hr.lt b r hmb
      have hsh : w.shape? r = none := by simp only [World.shape?,hg]
      have htn := Turn.set (w := w) (B' := .map (es.push { key := .int .i64 n.val,val := .agg #[],born := ck }) (ck + 1)) hlt hsh (fun _ _ _ h => by cases h)
      refine op_skip hs ?_ (Ext.turn hs.hr hmb htn) (hs.hr.turn hB hmb htn (B' := .set (l ++ [n.val])) ⟨_,_,by simp only [Array.getElem?_setIfInBounds,if_pos,hlt]; rfl,by simp [hkeys],fun e he => ?_⟩) hs.nn hK
      ·unfold execOp; rw [ho]
       refine runu ?_
       have hck := run_checkKey (P := P) (w := w) (b := false) (n := n.val) huk rfl
       simp [Instr.mapUpdate,run_underlying hu,hvx,hvi,hvv,run_getMap hg,hck,hfk,setObj,Sem.run,hg]
      ·simp at he
       rcases he with he | rfl
       ·exact hvals e (by simpa using he)
       ·rfl
    ·exact h.elim
   ·exact h.elim
  ·rename_i y h64 hag
   obtain ⟨dk,huk,hkk⟩ := tok_under (hT k tk htk)
   rw [isI64_eq h64] at hkk
   cases dk <;> try exact hkk.elim
   rename_i k64
   have hkk : IntKind.i64 = k64 := hkk
   subst hkk
   rw [hag] at hv
   have hvv := hv.inv_int
   unfold intoV at h
   split at h
   ·rename_i b n y' hev hevi hy
    cases hy
    rw [hev] at hx; rw [hevi] at hi
    split at h
    ·rename_i l m hB
     obtain ⟨mm,hm,hBR⟩ := hs.hr.live b _ hB
     generalize hvx : a.eval x = vx at hx
     have hvi := hi.inv_int
     cases hx with
     | goneM _ _ hm' _ => rw [hm] at hm'; cases hm'
     | mp _ r hm' =>
      have hmb := hm'
      rw [hm'] at hm; cases hm
      obtain ⟨es,ck,hg,hkeys,hvals⟩ := hBR
      obtain ⟨hin,hK⟩ := need h
      obtain ⟨j,hj⟩ := findNow_kv n.val es.toList 0 l m hkeys hvals
      rw [kvGet_none hin] at hj
      have hfk : (Instr.findKey k (.int .i64 n.val) es.toList).run P w = .ok none w := by
       simp [Instr.findKey,run_underlying huk,hj]
      have hlt : r < w.heap.size := hs.hr.lt b r hmb
      have hsh : w.shape? r = none := by simp only [World.shape?,hg]
      have htn := Turn.set (w := w) (B' := .map (es.push { key := .int .i64 n.val,val := .int .i64 y.val,born := ck }) (ck + 1)) hlt hsh (fun _ _ _ h => by cases h)
      refine op_skip hs ?_ (Ext.turn hs.hr hmb htn) (hs.hr.turn hB hmb htn (B' := .kv (l ++ [n.val]) (m ++ [y.val])) ⟨_,_,by simp only [Array.getElem?_setIfInBounds,if_pos,hlt]; rfl,by simp [hkeys],by simp [hvals]⟩) hs.nn hK
      unfold execOp; rw [ho]
      refine runu ?_
      have hck := run_checkKey (P := P) (w := w) (b := false) (n := n.val) huk rfl
      simp [Instr.mapUpdate,run_underlying hu,hvx,hvi,hvv,run_getMap hg,hck,hfk,setObj,Sem.run,hg]
    ·exact h.elim
   ·exact h.elim
  ·exact h.elim
 ·exact h.elim
theorem eva_rel (hs : St c s a w) : ∀ l : List Operand,Rel2 c w (eva s l) (l.map a.eval)
 | [] => Rel2.nil
 | x :: l => Rel2.cons (hs.ev x) (eva_rel hs l)
theorem lop_makeFunc {f : Nat} {first cap : Array Operand} (ho : o.op = .makeFunc (.func f) first cap) (hf : first.toList = []) (hs : St c s a w) (h : K (s.put o.dst (.fn f (eva s cap.toList)))) : o.wp P a w (Post K c w) Q := by
 have hf : first = #[] := by cases first; simp_all
 subst hf
 have hrel := eva_rel hs cap.toList
 refine op_val hs (v := .func (.func f) #[] (cap.map a.eval)) ?_ (.fn _ _ _ ?_ ?_) h
 ·unfold execOp; rw [ho]
  exact runv (by simp [Instr.makeFunc])
 ·simpa using hrel.1
 ·exact (Rel2.getD (x := cap.map a.eval) (by simpa using hrel)).2
theorem Rel2.append {l m : List LV} {xs ys : List Value} (h : Rel2 c w l xs) (k : Rel2 c w m ys) : Rel2 c w (l ++ m) (xs ++ ys) := by
 refine ⟨by simp [h.1,k.1],fun j u hu => ?_⟩
 by_cases hj : j < l.length
 ·rw [List.getElem?_append_left hj] at hu
  rw [List.getElem?_append_left (by rw [← h.1]; exact hj)]
  exact h.2 j u hu
 ·rw [List.getElem?_append_right (by omega)] at hu
  rw [List.getElem?_append_right (by rw [← h.1]; omega),← h.1]
  exact k.2 _ u hu
theorem call_sound {g : Nat} {args : List LV} {xs : Array Value} (hs : St c s a w) (hr : (execOp a.eval o).run P w = (callFunc g xs).run P w) (hrel : Rel2 c w args xs.toList)
  (h : CallF (fun _ => P) g args s.h s.n fun r h n => K (LS.put { s with h := h,n := n } o.dst r)) : o.wp P a w (Post K c w) Q := by
 cases h with
 | mk hc hsem =>
  obtain ⟨fn,cd,h1,h2,h3⟩ := hc
  have hrun : (callFunc g xs).run P w = .ok (.enter g xs) w := by
   have h2' : ¬ fn.name = "runtime.NumGoroutine" := by simpa using h2
   simp [callFunc,Sem.run,program,h1,h2',h3]
  unfold Oper.wp
  rw [hr,hrun,Oper.upon_enter]
  refine (hsem c w xs hs.hr hs.nn hrel.getD.1 hrel.getD.2).mono fun e w' hh => ?_
  obtain ⟨c',r,v,h',n',rfl,hK,hh',hn',hv,he⟩ := hh
  exact ⟨c',_,hK,(hs.ext he hh' hn').put hv _,he⟩
theorem lop_call {cl : Call} {f : Operand} (ho : o.op = .call cl) (hcl : cl.callee = .value f) (hs : St c s a w)
  (h : match ev s f with
   | .p (.fn g) => CallF (fun _ => P) g (eva s cl.args.toList) s.h s.n fun r h n => K (LS.put { s with h := h,n := n } o.dst r)
   | .fn g cap => CallF (fun _ => P) g (eva s cl.args.toList ++ cap) s.h s.n fun r h n => K (LS.put { s with h := h,n := n } o.dst r)
   | _ => False) : o.wp P a w (Post K c w) Q := by
 have hf := hs.ev f
 have hrel := eva_rel hs cl.args.toList
 split at h
 ·rename_i g hev
  rw [hev] at hf
  have hv : a.eval f = .func (.func g) #[] #[] := by
   generalize a.eval f = v at hf
   cases hf with | p _ _ hp => cases hp; rfl
  refine call_sound hs (xs := cl.args.map a.eval) ?_ (by simpa using hrel) h
  unfold execOp; rw [ho]
  simp [resolve,hcl,hv,Deferred.ofValue,invoke]
 ·rename_i g cap hev
  rw [hev] at hf
  generalize hvf : a.eval f = v at hf
  cases hf with
  | fn _ _ xs hl hr =>
   refine call_sound hs (xs := cl.args.map a.eval ++ xs) ?_ (by simpa using hrel.append (Rel2.ofD hl hr)) h
   unfold execOp; rw [ho]
   simp [resolve,hcl,hvf,Deferred.ofValue,invoke]
 ·exact h.elim
theorem lop_invoke {cl : Call} {f : Operand} {name : String} (ho : o.op = .call cl) (hcl : cl.callee = .invoke f name) (hs : St c s a w)
  (h : InvF (fun _ => P) (ev s f) name (eva s cl.args.toList) s.h s.n fun r h n => K (LS.put { s with h := h,n := n } o.dst r)) : o.wp P a w (Post K c w) Q := by
 cases h with
 | mk g rv hsem hc =>
  obtain ⟨t,x,r,hv,hm,hr⟩ := hsem c w (a.eval f) hs.hr (hs.ev f)
  have hrel := eva_rel hs cl.args.toList
  refine call_sound hs (xs := #[r] ++ cl.args.map a.eval) ?_ ?_ hc
  ·unfold execOp
   rw [ho]
   have h0 : (#[Value.iface t x] ++ Array.map a.eval cl.args)[0]? = some (.iface t x) := by rw [Array.getElem?_append]; simp
   have h1 : (Array.map a.eval cl.args).extract 0 cl.args.size = Array.map a.eval cl.args := by
    have := Array.extract_size (xs := Array.map a.eval cl.args)
    rwa [Array.size_map] at this
   simp [resolve,hcl,hv,invoke,callMethod,h0,h1,hm]
  ·have h2 : Rel2 c w (rv :: eva s cl.args.toList) (r :: cl.args.toList.map a.eval) := Rel2.cons hr hrel
   simpa using h2
end
end Go.LX
namespace Go.LX
open Go
set_option maxHeartbeats 32000000
section
variable {P : Program} {T : TT} {o : Oper} {s : LS} {K : LS → Prop} {c : Ctx} {a : Act} {w w' : World} {Q : Exit → Act → World → Prop}
theorem built_run {cl : Call} {b : Builtin} (ho : o.op = .call cl) (hcl : cl.callee = .builtin b) {v : Value} {w' : World} (h : ∀ cs,(builtin b cl.argTypes o.type cs (cl.args.map a.eval)).run P w = .ok (.value v) w') :
  (execOp a.eval o).run P w = .ok (.value v) w' := by
 unfold execOp; rw [ho]
 simp [resolve,hcl,invoke]
 exact h _
theorem args1 {cl : Call} {x : LV} (hs : St c s a w) (h : eva s cl.args.toList = [x]) : ∃ v,cl.args.map a.eval = #[v] ∧ LR c w x v := by
 have hrel := eva_rel hs cl.args.toList
 rw [h] at hrel
 obtain ⟨v,ys,h1,h2,h3⟩ := hrel.head
 have : ys = [] := by cases ys with | nil => rfl | cons y ys => have := h3.1; simp at this
 subst this
 exact ⟨v,by apply Array.ext'; simpa using h1,h2⟩
theorem args2 {cl : Call} {x y : LV} (hs : St c s a w) (h : eva s cl.args.toList = [x,y]) : ∃ v u,cl.args.map a.eval = #[v,u] ∧ LR c w x v ∧ LR c w y u := by
 have hrel := eva_rel hs cl.args.toList
 rw [h] at hrel
 obtain ⟨v,ys,h1,h2,h3⟩ := hrel.head
 obtain ⟨u,zs,h4,h5,h6⟩ := h3.head
 have : zs = [] := by cases zs with | nil => rfl | cons y ys => have := h6.1; simp at this
 subst this h4
 exact ⟨v,u,by apply Array.ext'; simpa using h1,h2,h5⟩
theorem lop_len (hT : TOK P T) {cl : Call} {x : LV} {t : Nat} {ti : TI} (ho : o.op = .call cl) (hcl : cl.callee = .builtin .len) (hargs : eva s cl.args.toList = [x]) (hty : cl.argTypes.toList[0]? = some t) (ht : lget T t = some ti) (hs : St c s a w)
  (h : match ti.kind,x with
    | .slice _,.p (.vsl n _ _) => K (s.put o.dst (.p (.int .i64 n)))
    | .slice _,.p .nils => K (s.put o.dst (.p (.int .i64 (.lit 0))))
    | .str,.p (.str z) => Sum (fun _ => (z ()).size) fun y => K (s.put o.dst (.p (.int .i64 y)))
    | .slice _,.sl b _ _ _ n => match hget s.h b with
     | some _ => K (s.put o.dst (.p (.int .i64 n)))
     | none => False
    | _,_ => False) : o.wp P a w (Post K c w) Q := by
 obtain ⟨v,hv,hx⟩ := args1 hs hargs
 obtain ⟨d,hu,hkd⟩ := tok_under (hT t ti ht)
 have hty' : cl.argTypes[0]? = some t := by simpa using hty
 have hrun : ∀ {n : Int},(Builtin.len_ cl.argTypes o.type #[v]).run P w = .ok (goInt n) w → (execOp a.eval o).run P w = .ok (.value (.int .i64 n)) w := by
  intro n h
  refine built_run ho hcl fun cs => ?_
  rw [hv]
  simp [builtin,h,goInt]
 split at h
 ·rename_i e n sy l hk
  rw [hk] at hkd
  cases d <;> try exact hkd.elim
  cases hx with
  | p _ _ hp =>
   cases hp with
   | vsl0 _ _ _ ad cp h0 _ => exact op_val hs (hrun (n := n.val) (by simp [Builtin.len_,hty',run_underlying hu,h0])) (LR.of_int _ _) h
   | vsl _ _ _ ad n' cp g hn hsp hM hlt hle hcp hcell hrel => exact op_val hs (hrun (n := n.val) (by simp [Builtin.len_,hty',run_underlying hu,hn])) (LR.of_int _ _) h
 ·rename_i e hk
  rw [hk] at hkd
  cases d <;> try exact hkd.elim
  cases hx with
  | p _ _ hp =>
   cases hp with
   | nils => exact op_val hs (hrun (n := 0) (by simp [Builtin.len_,hty',run_underlying hu])) (LR.of_int .i64 (.lit 0)) h
 ·rename_i z hk
  rw [hk] at hkd
  cases d <;> try exact hkd.elim
  cases hx.inv_str
  obtain ⟨y,hy,hK⟩ := sum h
  exact op_val hs (hrun (n := y.val) (by simp [Builtin.len_,hty',run_underlying hu,hy])) (LR.of_int _ _) hK
 ·rename_i e b e' sz o' n hk
  rw [hk] at hkd
  cases d <;> try exact hkd.elim
  cases hB : hget s.h b with
  | none => rw [hB] at h; exact h.elim
  | some B =>
   rw [hB] at h
   obtain ⟨m,hm,_⟩ := hs.hr.live b B hB
   cases hx with
   | goneS _ _ _ _ _ _ _ _ hm' _ => rw [hm] at hm'; cases hm'
   | slz _ _ _ _ _ ad r tot hm' ho' hn' _ _ => exact op_val hs (hrun (n := n.val) (by simp [Builtin.len_,hty',run_underlying hu,hn'])) (LR.of_int _ _) h
   | slv _ _ _ _ _ hm' ho' hn' => exact op_val hs (hrun (n := n.val) (by simp [Builtin.len_,hty',run_underlying hu,hn'])) (LR.of_int _ _) h
   | sl _ _ _ _ _ r j' k' cp tot hm' ho' hn' hk' hc hs' ht' => exact op_val hs (hrun (n := n.val) (by simp [Builtin.len_,hty',run_underlying hu,hn'])) (LR.of_int _ _) h
 ·exact h.elim
theorem lop_min {cl : Call} {k k' : IntKind} {x y : I} (ho : o.op = .call cl) (hcl : cl.callee = .builtin .min) (hargs : eva s cl.args.toList = [.p (.int k x),.p (.int k' y)]) (hs : St c s a w)
  (h : Br (fun _ => y.val < x.val) fun c => match c with
    | true => K (s.put o.dst (.p (.int k y)))
    | false => K (s.put o.dst (.p (.int k x)))) : o.wp P a w (Post K c w) Q := by
 obtain ⟨v,u,hv,hx,hy⟩ := args2 hs hargs
 cases hx.inv_int; cases hy.inv_int
 obtain ⟨b,hb,hK⟩ := br h
 have hrun : (execOp a.eval o).run P w = .ok (.value (.int k (if y.val < x.val then y.val else x.val))) w := by
  refine built_run ho hcl fun cs => ?_
  rw [hv]
  simp [builtin,Builtin.min_,Builtin.min2]
 cases b with
 | true => rw [if_pos (hb.1 rfl)] at hrun; exact op_val hs hrun (LR.of_int _ _) hK
 | false => rw [if_neg (fun h => by have := hb.2 h; cases this)] at hrun; exact op_val hs hrun (LR.of_int _ _) hK
theorem lop_max {cl : Call} {k k' : IntKind} {x y : I} (ho : o.op = .call cl) (hcl : cl.callee = .builtin .max) (hargs : eva s cl.args.toList = [.p (.int k x),.p (.int k' y)]) (hs : St c s a w)
  (h : Br (fun _ => x.val < y.val) fun c => match c with
    | true => K (s.put o.dst (.p (.int k y)))
    | false => K (s.put o.dst (.p (.int k x)))) : o.wp P a w (Post K c w) Q := by
 obtain ⟨v,u,hv,hx,hy⟩ := args2 hs hargs
 cases hx.inv_int; cases hy.inv_int
 obtain ⟨b,hb,hK⟩ := br h
 have hrun : (execOp a.eval o).run P w = .ok (.value (.int k (if x.val < y.val then y.val else x.val))) w := by
  refine built_run ho hcl fun cs => ?_
  rw [hv]
  simp [builtin,Builtin.max_,Builtin.max2]
 cases b with
 | true => rw [if_pos (hb.1 rfl)] at hrun; exact op_val hs hrun (LR.of_int _ _) hK
 | false => rw [if_neg (fun h => by have := hb.2 h; cases this)] at hrun; exact op_val hs hrun (LR.of_int _ _) hK
end
end Go.LX
namespace Go.LX
open Go
set_option linter.unusedVariables false
set_option maxHeartbeats 32000000
section
variable {P : Program} {T : TT} {o : Oper} {s : LS} {K : LS → Prop} {c : Ctx} {a : Act} {w w' : World} {Q : Exit → Act → World → Prop}
def Src (w : World) (y : Value) (m : Nat) (news : List Value) : Prop := (∃ cp,y = .slice none 0 cp ∧ m = 0 ∧ news = []) ∨ ∃ ad cp,y = .slice (some ad) m cp ∧ ∀ (j : Nat) (v : Value),news[j]? = some v → w.cell? (ad.add j) = some v
theorem src0 : ∀ ad : Option Addr,Src w (.slice ad 0 0) 0 []
 | none => .inl ⟨0,rfl,rfl,rfl⟩
 | some ad => .inr ⟨ad,0,rfl,fun j v hj => by simp at hj⟩
theorem PR.one {M : Nat → Prop} {u : PV} {x : Value} (h : PR M w u x) : x.oneCell' = true := by
 cases h <;> first | rfl | assumption
theorem plen_eq : ∀ l : List PV,plen l = l.length
 | [] => rfl
 | _ :: l => by rw [plen,plen_eq l]; rfl
theorem pdrop_eq : ∀ (l : List PV) (n : Nat),pdrop l n = l.drop n
 | l,0 => by cases l <;> rfl
 | [],_ + 1 => rfl
 | _ :: l,n + 1 => by rw [pdrop,pdrop_eq l n]; rfl
theorem ptake_eq : ∀ (l : List PV) (n : Nat),ptake l n = l.take n
 | l,0 => by cases l <;> rfl
 | [],_ + 1 => rfl
 | x :: l,n + 1 => by rw [ptake,ptake_eq l n]; rfl
theorem newCells_sound {te : TI} {y : LV} {yv : Value} {L : Bool → List PV → I → Prop} (hs : St c s a w) (hy : LR c w y yv) (hsz : 1 ≤ te.size) (h : newCells s te y L) :
  ∃ sb b m m' news,L sb b m ∧ m.val = ((m' : Nat) : Int) ∧ Src w yv m' news ∧ Rel2 c w (pvs b) news ∧ news.length = m' * te.size ∧ m' ≤ maxLen := by
 unfold newCells at h
 split at h
 ·cases hy with
  | p _ _ hp => cases hp; exact ⟨_,_,_,0,[],h,rfl,.inl ⟨0,rfl,rfl,rfl⟩,Rel2.nil,by simp,Nat.zero_le _⟩
 ·rename_i n sy l
  obtain ⟨hl,h⟩ := need h
  cases hy with
  | p _ _ hp =>
   cases hp with
   | vsl0 _ _ _ ad cp h0 _ =>
    have hl0 : l = [] := by
     apply List.eq_nil_of_length_eq_zero
     have : (l.length : Int) = n.val * te.size := hl
     rw [h0] at this; omega
    subst hl0
    cases ad with
    | none => exact ⟨_,_,_,0,[],h,h0,.inl ⟨cp,rfl,rfl,rfl⟩,Rel2.nil,by simp,Nat.zero_le _⟩
    | some ad => exact ⟨_,_,_,0,[],h,h0,.inr ⟨ad,cp,rfl,fun j v hj => by simp at hj⟩,Rel2.nil,by simp,Nat.zero_le _⟩
   | vsl _ _ _ ad n' cp g hn hsp hM hlt hle hcp hcell hrel =>
    refine ⟨_,_,_,n',(List.range l.length).map g,h,hn,.inr ⟨ad,cp,rfl,fun j v hj => ?_⟩,?_,?_,Nat.le_trans hle hcp⟩
    ·simp only [List.getElem?_map] at hj
     by_cases hjl : j < l.length
     ·rw [List.getElem?_range hjl] at hj; cases hj
      exact hcell j _ (List.getElem?_eq_getElem hjl)
     ·rw [List.getElem?_eq_none (by simp; omega)] at hj; cases hj
    ·refine ⟨by simp [pvs_length],fun j u hu => ?_⟩
     rw [pvs_get] at hu
     cases e : l[j]? with
     | none => rw [e] at hu; cases hu
     | some v =>
      rw [e] at hu; cases hu
      have hjl : j < l.length := (List.getElem?_eq_some_iff.1 e).1
      exact ⟨g j,by simp [hjl],.p _ _ (hrel j v e)⟩
    ·have : (l.length : Int) = n.val * te.size := hl
     rw [hn] at this
     simp
     exact_mod_cast this
 ·rename_i b e1 sz o' n
  cases hB : hget s.h b with
  | none => rw [hB] at h; exact h.elim
  | some B =>
   rw [hB] at h
   cases B with
   | mix l => exact h.elim
   | iter z p => exact h.elim
   | set l => exact h.elim
   | kv l vs => exact h.elim
   | frz l => exact h.elim
   | fix g o => exact h.elim
   | bld t l => exact h.elim
   | pure sy l =>
    obtain ⟨m0,hm0,hBR⟩ := hs.hr.live b _ hB
    have part : ∀ (sy' : Bool) (l' : List PV),l' = (l.drop o'.val.toNat).take (n.val.toNat * te.size) → 0 ≤ o'.val → 0 ≤ n.val → o'.val + n.val * te.size ≤ l.length → L sy' l' n →
      ∃ sb b m m' news,L sb b m ∧ m.val = ((m' : Nat) : Int) ∧ Src w yv m' news ∧ Rel2 c w (pvs b) news ∧ news.length = m' * te.size ∧ m' ≤ maxLen := by
     intro sy' l' hl' h0 hn0 hle h
     cases hy with
     | goneS _ _ _ _ _ _ _ _ hm' _ => rw [hm0] at hm'; cases hm'
     | slv _ _ _ _ _ hm' ho' hn' =>
      have hl0 : l' = [] := by rw [hl',hn']; simp
      subst hl0
      exact ⟨_,_,_,0,[],h,hn',.inl ⟨0,rfl,rfl,rfl⟩,Rel2.nil,by simp,Nat.zero_le _⟩
     | slz _ _ _ _ _ ad r tot hm' ho' hn' hs' h0' =>
      have hl0 : l' = [] := by rw [hl',hn']; simp
      subst hl0
      exact ⟨_,_,_,0,[],h,hn',src0 ad,Rel2.nil,by simp,Nat.zero_le _⟩
     | sl _ _ _ _ _ r j' k' cp tot hm' ho' hn' hk' hc hs' ht' =>
      rw [hm'] at hm0; cases hm0
      obtain ⟨cur,ty,hg,hle2,hrel⟩ := hBR
      rw [ho',hn'] at hl' hle
      rw [Int.toNat_natCast,Int.toNat_natCast] at hl'
      have hle : j' + k' * te.size ≤ l.length := by exact_mod_cast hle
      have hget : ∀ j,j < k' * te.size → l'[j]? = l[j' + j]? := fun j hj => by rw [hl',List.getElem?_take,if_pos hj,List.getElem?_drop]
      have hll : l'.length = k' * te.size := by rw [hl',List.length_take,List.length_drop]; omega
      have hcl : ((cur.toList.drop j').take (k' * te.size)).length = k' * te.size := by rw [List.length_take,List.length_drop,Array.length_toList]; omega
      refine ⟨_,_,_,k',(cur.toList.drop j').take (k' * te.size),h,hn',.inr ⟨_,cp,rfl,cells_at hg _ (by omega)⟩,?_,hcl,Nat.le_trans hk' hc⟩
      refine ⟨by rw [pvs_length,hll,hcl],fun j u hu => ?_⟩
      rw [pvs_get] at hu
      cases e : l'[j]? with
      | none => rw [e] at hu; cases hu
      | some v =>
       rw [e] at hu; cases hu
       have hjl : j < l'.length := (List.getElem?_eq_some_iff.1 e).1
       rw [hget j (by omega)] at e
       have hc' : cur[j' + j]? = some (cur[j' + j]'(by omega)) := Array.getElem?_eq_getElem (by omega)
       refine ⟨cur[j' + j]'(by omega),by rw [List.getElem?_take,if_pos (by omega),List.getElem?_drop]; simp,.p _ _ ?_⟩
       have := hrel (j' + j) v e
       rwa [Array.getD_eq_getD_getElem?,hc'] at this
    have nonneg : (0 : Int) ≤ n.val ∨ ∀ P : Prop,P := by
     cases hy with
     | goneS _ _ _ _ _ _ _ _ hm' _ => rw [hm0] at hm'; cases hm'
     | slv _ _ _ _ _ hm' ho' hn' => exact .inl (by omega)
     | slz _ _ _ _ _ _ _ _ _ _ hn' => exact .inl (by omega)
     | sl _ _ _ _ _ r j' k' cp tot hm' ho' hn' hk' hc hs' ht' => exact .inl (by omega)
    have gen : partC l o' n te.size L → ∃ sb b m m' news,L sb b m ∧ m.val = ((m' : Nat) : Int) ∧ Src w yv m' news ∧ Rel2 c w (pvs b) news ∧ news.length = m' * te.size ∧ m' ≤ maxLen := by
     intro h
     obtain ⟨⟨h1,h2,h3⟩,h⟩ := need h
     exact part _ _ rfl h1 h2 h3 (upd h)
    cases o' with
    | sym j => exact gen h
    | lit j =>
     dsimp only at h
     cases hj0 : decide (j = 0) with
     | false => rw [hj0] at h; exact gen h
     | true =>
      rw [hj0] at h
      have hj0 := of_decide_eq_true hj0
      subst hj0
      have hv0 : (I.lit 0).val = 0 := rfl
      cases h with
      | new hl h =>
       have hl : (l.length : Int) = n.val * te.size := hl
       rcases nonneg with hn0 | hP
       ·refine part _ _ ?_ (Int.le_refl _) hn0 (by rw [hv0]; omega) h
        obtain ⟨q,hq⟩ := Int.eq_ofNat_of_zero_le hn0
        rw [hq] at hl ⊢
        have : l.length = q * te.size := by exact_mod_cast hl
        rw [hv0]; simp only [Int.toNat_zero,List.drop_zero,Int.toNat_natCast]
        rw [← this,List.take_length]
       ·exact hP _
      | within hl h =>
       have hl : 0 ≤ n.val ∧ n.val * te.size ≤ l.length := hl
       exact part _ _ (by rw [hv0]; rfl) (Int.le_refl _) hl.1 (by rw [hv0]; omega) (upd h)
 ·rename_i b o' n
  split at h
  ·rename_i l hB
   split at h
   ·rename_i j k
    split at h
    ·rename_i hle
     have hle := Nat.le_of_ble_eq_true hle
     rw [plen_eq] at hle
     rw [ptake_eq,pdrop_eq] at h
     obtain ⟨m0,hm0,hBR⟩ := hs.hr.live b _ hB
     cases hy with
     | goneA _ _ _ _ hm' _ => rw [hm0] at hm'; cases hm'
     | sla _ _ _ r j' k' cp hm' ho' hn' hk' hc =>
      rw [hm'] at hm0; cases hm0
      obtain ⟨cur,ty,hg,hle2,hrel⟩ := hBR
      obtain rfl : j' = j := by have : ((j : Nat) : Int) = j' := ho'; omega
      obtain rfl : k' = k := by have : ((k : Nat) : Int) = k' := hn'; omega
      have hcl : ((cur.toList.drop j').take (k' * te.size)).length = k' * te.size := by rw [List.length_take,List.length_drop,Array.length_toList]; omega
      have hll : ((l.drop j').take (k' * te.size)).length = k' * te.size := by rw [List.length_take,List.length_drop]; omega
      refine ⟨_,_,_,k',(cur.toList.drop j').take (k' * te.size),h,hn',.inr ⟨_,cp,rfl,cells_at hg _ (by omega)⟩,?_,hcl,Nat.le_trans hk' hc⟩
      refine ⟨by rw [pvs_length,hll,hcl],fun i u hu => ?_⟩
      rw [pvs_get] at hu
      cases e : ((l.drop j').take (k' * te.size))[i]? with
      | none => rw [e] at hu; cases hu
      | some v =>
       rw [e] at hu; cases hu
       have hil := (List.getElem?_eq_some_iff.1 e).1
       rw [List.getElem?_take,if_pos (by omega),List.getElem?_drop] at e
       have hc' : cur[j' + i]? = some (cur[j' + i]'(by omega)) := Array.getElem?_eq_getElem (by omega)
       refine ⟨cur[j' + i]'(by omega),by rw [List.getElem?_take,if_pos (by omega),List.getElem?_drop]; simp,.p _ _ ?_⟩
       have := hrel (j' + i) v e
       rwa [Array.getD_eq_getD_getElem?,hc'] at this
    ·exact h.elim
   ·exact h.elim
  ·exact h.elim
 ·exact h.elim
theorem append_none (t ty e : TypeId) (i : TypeInfo) (ht : P.underlying t = some (.slice e)) (hi : P.info? e = some i) (b : Option Addr) (n cap cp : Nat) (h : n ≤ cap) :
  (Builtin.append_ #[t,t] ty #[.slice b n cap,.slice none 0 cp]).run P w = .ok (.slice b n cap) w := by
 cases b <;> simp [Builtin.append_,run_underlying ht,sizeOf,typeInfo,hi,Builtin.lenOf,Builtin.firstCells,h,storeCells]
theorem append_zero (t ty e : TypeId) (i : TypeInfo) (ht : P.underlying t = some (.slice e)) (hi : P.info? e = some i) (b : Option Addr) (n cap cp : Nat) (ad : Addr) (h : n ≤ cap) :
  (Builtin.append_ #[t,t] ty #[.slice b n cap,.slice (some ad) 0 cp]).run P w = .ok (.slice b n cap) w := by
 cases b <;> simp [Builtin.append_,run_underlying ht,sizeOf,typeInfo,hi,Builtin.lenOf,Builtin.firstCells,h,storeCells,loadCells,loadCellsFrom]
theorem pvs_append : ∀ (a b : List PV),pvs (a ++ b) = pvs a ++ pvs b
 | [],_ => rfl
 | x :: a,b => by simp [pvs,pvs_append a b]
theorem allOk_pvs : ∀ (a : List PV),allOk (pvs a) = true
 | [] => rfl
 | x :: a => by simp [pvs,allOk,okc,allOk_pvs a]
theorem newRow_res {h : LH} (hr : HR c w h) {e sz k cap : Nat} {kk : I} {sy : Bool} {l : List PV} {xs rest : List Value} (hrel : Rel2 c w (pvs l) xs) (hk : kk.val = (k : Int)) (hkc : k ≤ cap) (hcm : cap ≤ maxLen) (hsz : cap * sz = (xs ++ rest).length) :
  Ext c w (c.grow (some w.heap.size)) (w.drew.alloc (.cells (xs ++ rest).toArray e)) ∧ HR (c.grow (some w.heap.size)) (w.drew.alloc (.cells (xs ++ rest).toArray e)) ((c.N,.pure sy l) :: h) ∧
   LR (c.grow (some w.heap.size)) (w.drew.alloc (.cells (xs ++ rest).toArray e)) (.sl c.N e sz (.lit 0) kk) (.slice (some ⟨w.heap.size,0,none⟩) k cap) := by
 obtain ⟨e1,r1⟩ := hr.same (w' := w.drew) rfl rfl rfl rfl
 have ea := Ext.alloc r1 (.cells (xs ++ rest).toArray e)
 have hsz2 : w.drew.heap.size = w.heap.size := rfl
 rw [hsz2] at ea
 have hnew : (w.drew.alloc (.cells (xs ++ rest).toArray e)).heap[w.heap.size]? = some (.cells (xs ++ rest).toArray e) := heap_alloc_new w.drew _
 refine ⟨e1.trans ea,?_,?_⟩
 ·have := r1.alloc (.cells (xs ++ rest).toArray e) (.pure sy l) ?_
  ·exact this
  ·refine ⟨_,e,hnew,?_,fun j u hu => ?_⟩
   ·have := hrel.1
    rw [pvs_length] at this
    simp; omega
   ·obtain ⟨x,h1,h2⟩ := hrel.2 j (.p u) (by rw [pvs_get,hu]; rfl)
    have hj := (List.getElem?_eq_some_iff.1 h1).1
    rw [Array.getD_eq_getD_getElem?,List.getElem?_toArray,List.getElem?_append_left hj,h1]
    have h3 := (h2.ext hr.fresh (e1.trans ea))
    cases h3 with | p _ _ h => exact h
 ·refine .sl _ _ _ _ _ w.heap.size 0 k cap (cap * sz) (grow_new c _) rfl hk hkc hcm ?_ (by omega)
  rw [World.shape?,hnew]
  simp only [hsz,List.size_toArray]
theorem room {p q : Unit → Prop} {L L' : Unit → Prop} (h : Room p q L L') : (q () ∧ L' ()) ∨ (p () ∧ L ()) := by
 cases h with
 | new h k => exact .inr ⟨h,k⟩
 | within h k => exact .inl ⟨h,k⟩
theorem updL_length : ∀ (us l : List PV) (o : Nat),(updL l o us).length = l.length
 | [],l,o => rfl
 | u :: us,l,o => by rw [updL,updL_length us]; simp
theorem updL_get : ∀ (us l : List PV) (o : Nat),o + us.length ≤ l.length → ∀ (j : Nat),(updL l o us)[j]? = if j < o then l[j]? else if j < o + us.length then us[j - o]? else l[j]?
 | [],l,o,h,j => by
  rw [updL]
  by_cases h1 : j < o
  ·rw [if_pos h1]
  ·rw [if_neg h1,if_neg (by simp; omega)]
 | u :: us,l,o,h,j => by
  have h : o + (us.length + 1) ≤ l.length := h
  rw [updL,updL_get us (l.set o u) (o + 1) (by simp; omega) j]
  simp only [List.length_cons]
  by_cases h1 : j < o
  ·rw [if_pos (by omega),if_pos h1,List.getElem?_set_ne (by omega)]
  ·rw [if_neg h1]
   by_cases h2 : j = o
   ·subst h2
    rw [if_pos (by omega),if_pos (by omega),List.getElem?_set_self (by omega)]; simp
   ·rw [if_neg (by omega)]
    by_cases h3 : j < o + 1 + us.length
    ·rw [if_pos h3,if_pos (by omega),show j - o = (j - (o + 1)) + 1 by omega,List.getElem?_cons_succ]
    ·rw [if_neg h3,if_neg (by omega),List.getElem?_set_ne (by omega)]
theorem HR.reset {h : LH} (hr : HR c w h) {b : Nat} {B B' : LB} {m : Option Nat} (hb : hget h b = some B) (hm : c.m b = some m) (hB : BR c w B' m) : HR c w (hset h b B') := by
 refine hr.step (Ext.refl hr) (.inl rfl) hr.fresh (fun b => .inl rfl) (fun d C hd => ?_)
 rw [hget_set hb] at hd
 by_cases e : d = b
 ·rw [if_pos e] at hd; cases hd
  exact .inr ⟨m,by rw [e]; exact hm,hB⟩
 ·rw [if_neg e] at hd
  exact .inl ⟨hd,rfl,fun _ _ => rfl⟩
theorem append_str0 (t u ty e : TypeId) (i : TypeInfo) (ht : P.underlying t = some (.slice e)) (hu : P.underlying u = some .string) (hi : P.info? e = some i) (b : Option Addr) (n cap : Nat) (s : ByteArray) (h0 : s.size = 0) (h : n ≤ cap) :
  (Builtin.append_ #[t,u] ty #[.slice b n cap,.string s]).run P w = .ok (.slice b n cap) w := by
 cases b <;> simp [Builtin.append_,run_underlying ht,run_underlying hu,sizeOf,typeInfo,hi,Builtin.lenOf,Builtin.firstCells,h,h0,storeCells]
def SrcT (P : Program) (w : World) (t t' sz : Nat) (y : Value) (m : Nat) (news : List Value) : Prop :=
 (t = t' ∧ Src w y m news) ∨ (P.underlying t' = some .string ∧ sz = 1 ∧ ∃ s,y = .string s ∧ s.size = m ∧ Lib.strCells s = news)
theorem appendC_sound (hT : TOK P T) {cl : Call} {x : LV} {t t' e m' : Nat} {ti te : TI} {sb : Bool} {b : List PV} {m : I} {news : List Value} {v u : Value} (ho : o.op = .call cl) (hcl : cl.callee = .builtin .append) (hv : cl.args.map a.eval = #[v,u]) (hx : LR c w x v) (hty : cl.argTypes = #[t,t']) (ht : lget T t = some ti) (hk : ti.kind = .slice e) (hte : lget T e = some te)
  (hs : St c s a w) (hlen : te.zero.length = te.size) (hpos : 1 ≤ te.size) (hm : m.val = ((m' : Nat) : Int)) (hsrc : SrcT P w t t' te.size u m' news) (hrelb : Rel2 c w (pvs b) news) (hnl : news.length = m' * te.size) (hmm : m' ≤ maxLen) (h : appendC s e te sb b m x fun r s' => K (s'.put o.dst r)) : o.wp P a w (Post K c w) Q := by
 obtain ⟨d,hu,hkd⟩ := tok_under (hT t ti ht)
 rw [hk] at hkd
 cases d <;> try exact hkd.elim
 rename_i e'
 have hkd : e = e' := hkd
 subst hkd
 obtain ⟨⟨i,z,_,hi,hsz,hby,hz,hzc,_⟩,_⟩ := hT e te hte
 have hrun : ∀ {r w'},(Builtin.append_ #[t,t'] o.type #[v,u]).run P w = .ok r w' → (execOp a.eval o).run P w = .ok (.value r) w' := by
  intro r w' h
  refine built_run ho hcl fun cs => ?_
  rw [hv,hty]
  unfold builtin
  exact runv h
 unfold appendC at h
 have hzsz : z.cells.size = te.size := by
  have : z.cells.toList.length = te.zero.length := by rw [hzc,List.length_map]
  rw [Array.length_toList] at this; omega
 have hbl : b.length = m' * te.size := by rw [← hnl,← hrelb.1,pvs_length]
 rw [← hsz] at hnl
 have hzl : ∀ n,(Builtin.zeroCells z.cells n).toList.length = n * te.size := fun n => by rw [Array.length_toList,size_zeroCells,hzsz]
 have bound : ∀ {k : Nat},(k : Int) * te.bytes ≤ 140737488355328 → k * te.bytes ≤ 140737488355328 := fun {k} h => by
  have h2 : ((k * te.bytes : Nat) : Int) ≤ 140737488355328 := by rw [Int.natCast_mul]; exact h
  omega
 split at h
 ·-- append to nil
  obtain ⟨⟨hb1,hb2⟩,h⟩ := need h
  cases hx with
  | p _ _ hp =>
   cases hp
   rw [hm] at hb1 hb2
   have hb1 := bound hb1
   rcases Nat.eq_zero_or_pos m' with h0 | h0
   ·subst h0
    have hb0 : b = [] := List.eq_nil_of_length_eq_zero (by omega)
    subst hb0
    have hr : (Builtin.append_ #[t,t'] o.type #[.slice none 0 0,u]).run P w = .ok (.slice none 0 0) w := by
     rcases hsrc with ⟨rfl,⟨cp,rfl,_⟩ | ⟨ad,cp,rfl,_⟩⟩ | ⟨hu',_,st,rfl,hst,_⟩
     ·exact append_none t _ e i hu hi none 0 0 cp (Nat.le_refl _)
     ·exact append_zero t _ e i hu hi none 0 0 cp ad (Nat.le_refl _)
     ·exact append_str0 t t' _ e i hu hu' hi none 0 0 st hst (Nat.le_refl _)
    refine op_world hs (hrun hr) (Ext.void hs.hr) (hs.hr.void sb) (show c.N + 1 = s.n + 1 by rw [hs.nn]) (u := .sl s.n e te.size (.lit 0) m) ?_ (by rw [hs.nn]; exact h)
    rw [← hs.nn]; exact .slv _ _ _ _ _ (grow_new c _) rfl (by rw [hm]; rfl)
   ·have hr : (Builtin.append_ #[t,t'] o.type #[.slice none 0 0,u]).run P w = .ok (.slice (some ⟨w.heap.size,0,none⟩) m' (grownCap w m' 0 e)) (w.drew.alloc (.cells (news.toArray ++ Builtin.zeroCells z.cells (grownCap w m' 0 e - m')) e)) := by
     rcases hsrc with ⟨rfl,⟨cp,rfl,h1,_⟩ | ⟨ad,cp,rfl,hcell⟩⟩ | ⟨hu',hs1,st,rfl,hst,hnw⟩
     ·omega
     ·exact run_append_nil (P := P) w t o.type e i z hu hi hz ad m' cp news hnl hcell h0 hb2 (by rw [hby]; omega)
     ·subst hst hnw
      have := run_append_nil_string (P := P) w t t' o.type e i z hu hu' hi hz st h0 hb2 (by rw [hby]; omega)
      rw [this,show st.data.map (fun b => Value.int .u8 b.toNat) = (Lib.strCells st).toArray by apply Array.ext'; simp [Lib.strCells]]
    ·have hge := grownCap_ge w m' 0 e
     have hcm := grownCap_le_maxLen w m' 0 e hmm
     have harr : news.toArray ++ Builtin.zeroCells z.cells (grownCap w m' 0 e - m') = (news ++ (Builtin.zeroCells z.cells (grownCap w m' 0 e - m')).toList).toArray := by simp
     rw [harr] at hr
     have res := newRow_res hs.hr (e := e) (sz := te.size) (k := m') (cap := grownCap w m' 0 e) (kk := m) (sy := sb) (l := b) (xs := news) (rest := (Builtin.zeroCells z.cells (grownCap w m' 0 e - m')).toList) hrelb hm hge hcm (by
      rw [List.length_append,hzl,hnl,hsz,← Nat.add_mul]; congr 1; omega)
     refine op_world hs (hrun hr) res.1 res.2.1 (show c.N + 1 = s.n + 1 by rw [hs.nn]) (u := .sl s.n e te.size (.lit 0) m) ?_ (by rw [hs.nn]; exact h)
     rw [← hs.nn]; exact res.2.2
 ·-- append to a slice with a name
  rename_i i' e'' sz' j n
  cases hB : hget s.h i' with
  | none => rw [hB] at h; exact h.elim
  | some B =>
   rw [hB] at h
   cases B with
   | mix l => exact h.elim
   | iter z p => exact h.elim
   | set l => exact h.elim
   | kv l vs => exact h.elim
   | frz l => exact h.elim
   | fix g o => exact h.elim
   | bld t l => exact h.elim
   | pure sa al =>
    dsimp only at h
    split at h
    ·rename_i hj hsz' he'
     have hj := of_decide_eq_true hj
     have hsz' := Nat.eq_of_beq_eq_true hsz'
     have he' := Nat.eq_of_beq_eq_true he'
     subst hsz' he'
     have hrm := room h
     clear h
     rcases hrm with ⟨hfitq,h⟩ | ⟨⟨hal,hb1,hb2⟩,h⟩
     ·have h := upd h
      have hia := iadd_sound h
      clear h
      obtain ⟨kk,hkk,h⟩ := hia
      obtain ⟨mo,hmo,hBR⟩ := hs.hr.live i' _ hB
      cases hx with
      | goneS _ _ _ _ _ _ _ _ hm' _ => rw [hmo] at hm'; cases hm'
      | slz _ _ _ _ _ _ _ _ _ ho' _ _ h0' => exfalso; rw [hj] at ho'; simp only [I.val] at ho'; omega
      | slv _ _ _ _ _ hm' ho' hn' =>
       rw [hmo] at hm'; cases hm'
       have hal0 : al = [] := hBR
       subst hal0
       have h0 : m' = 0 := by
        rw [hn',hm] at hfitq
        have h3 : m' * te.size ≤ 0 := by simpa using (by exact_mod_cast hfitq : (0 + m') * te.size ≤ 0)
        have : m' ≤ m' * te.size := Nat.le_mul_of_pos_right m' hpos
        omega
       subst h0
       have hb0 : b = [] := List.eq_nil_of_length_eq_zero (by omega)
       subst hb0
       have hr : (Builtin.append_ #[t,t'] o.type #[.slice none 0 0,u]).run P w = .ok (.slice none 0 0) w := by
        rcases hsrc with ⟨rfl,⟨cp,rfl,_⟩ | ⟨ad,cp,rfl,_⟩⟩ | ⟨hu',_,st,rfl,hst,_⟩
        ·exact append_none t _ e'' i hu hi none 0 0 cp (Nat.le_refl _)
        ·exact append_zero t _ e'' i hu hi none 0 0 cp ad (Nat.le_refl _)
        ·exact append_str0 t t' _ e'' i hu hu' hi none 0 0 st hst (Nat.le_refl _)
       have hupd0 : updL ([] : List PV) (n.val.toNat * te.size) [] = [] := rfl
       rw [hupd0] at h
       have hset0 := hs.hr.reset (B' := .pure true []) hB hmo rfl
       refine op_world hs (hrun hr) (Ext.refl hs.hr) hset0 (show c.N = s.n from hs.nn) (u := .sl i' e'' te.size (.lit 0) kk) ?_ h
       exact .slv _ _ _ _ _ hmo rfl (by rw [hkk,hn',hm]; rfl)
      | sl _ _ _ _ _ r j' n' cp tot hm' ho' hn' hk' hc hs' ht' =>
       rw [hmo] at hm'; cases hm'
       obtain ⟨cur,ty,hg,hle,hrel⟩ := hBR
       have hj0 : j' = 0 := by rw [hj] at ho'; simp only [I.val] at ho'; omega
       subst hj0
       have hsh : ty = e'' ∧ cur.size = tot := by
        rw [World.shape?,hg] at hs'
        cases hs'; exact ⟨rfl,rfl⟩
       obtain ⟨rfl,rfl⟩ := hsh
       have hq : (n' + m') * te.size ≤ al.length := by rw [hn',hm] at hfitq; exact_mod_cast hfitq
       have hroom : n' + m' ≤ cp := Nat.le_of_mul_le_mul_right (by omega : (n' + m') * te.size ≤ cp * te.size) hpos
       have hfit : n' * i.size + news.length ≤ cur.size := by rw [hnl,hsz,← Nat.add_mul]; omega
       have hrun2 : (Builtin.append_ #[t,t'] o.type #[.slice (some ⟨r,0,none⟩) n' cp,u]).run P w = .ok (.slice (some ⟨r,0,none⟩) (n' + m') cp) (w.setRow r (over cur.toList (n' * te.size) news).toArray) := by
        rcases hsrc with ⟨rfl,⟨cp',rfl,rfl,rfl⟩ | ⟨ad,cp',rfl,hcell⟩⟩ | ⟨hu',hs1,st,rfl,hst,hnw⟩
        ·rw [append_none t _ ty i hu hi _ n' cp cp' hk']
         have : (over cur.toList (n' * te.size) []).toArray = cur := by simp [over]
         rw [this,setRow_self w r cur ty (0,0) hg,Nat.add_zero]
        ·have := run_append_room (P := P) w t o.type ty i hu hi r n' cp cur hg ad m' cp' news hnl hcell (hrelb.ones (allOk_pvs b)) hroom hfit
         rw [hsz] at this
         exact this
        ·subst hst hnw
         have := Lib.run_append_room_string (P := P) w t t' o.type _ i hu hu' hi (by rw [hsz]; exact hs1) r n' cp cur hg st hroom (by rw [hsz,hs1,Lib.strCells_length] at hfit; omega)
         rw [this]
         simp only [over,Lib.strCells_length,hs1,Nat.mul_one]
       have hsz3 : (over cur.toList (n' * te.size) news).toArray.size = cur.size := by
        rw [List.size_toArray,over_length _ _ _ (by rw [Array.length_toList]; rw [hsz] at hfit; exact hfit),Array.length_toList]
       have ht := turn_row (w := w) (cs := (over cur.toList (n' * te.size) news).toArray) hg hsz3
       have et := Ext.turn hs.hr hmo ht
       have hn2 : n.val.toNat * te.size = n' * te.size := by rw [hn']; rfl
       rw [hn2] at h
       have hB' : BR c (w.setRow r (over cur.toList (n' * te.size) news).toArray) (.pure true (updL al (n' * te.size) b)) (some r) := by
        refine ⟨_,ty,setRow_heap w r cur _ ty (0,0) hg,?_,fun j u hu => ?_⟩
        ·rw [hsz3,updL_length]; exact hle
        ·refine PR.ext hs.hr.fresh et ?_
         rw [Array.getD_eq_getD_getElem?,List.getElem?_toArray,over_get _ _ _ (by rw [Array.length_toList]; rw [hsz] at hfit; exact hfit)]
         rw [updL_get _ _ _ (by rw [hbl,← Nat.add_mul]; exact hq)] at hu
         by_cases h1 : j < n' * te.size
         ·rw [if_pos h1] at hu ⊢
          have := hrel j u hu
          rwa [Array.getD_eq_getD_getElem?,← Array.getElem?_toList] at this
         ·rw [if_neg h1] at hu ⊢
          by_cases h2 : j < n' * te.size + b.length
          ·rw [if_pos h2] at hu
           rw [if_pos (by rw [hnl,hsz,← hbl]; exact h2)]
           obtain ⟨x,h3,h4⟩ := hrelb.2 _ (.p u) (by rw [pvs_get,hu]; rfl)
           rw [h3]
           cases h4 with | p _ _ h => exact h
          ·rw [if_neg h2] at hu
           rw [if_neg (by rw [hnl,hsz,← hbl]; exact h2)]
           have := hrel j u hu
           rwa [Array.getD_eq_getD_getElem?,← Array.getElem?_toList] at this
       have hfin := hs.hr.turn hB hmo ht hB'
       refine op_world hs (hrun hrun2) et hfin (show c.N = s.n from hs.nn) (u := .sl i' ty te.size (.lit 0) kk) ?_ h
       refine .sl _ _ _ _ _ r 0 (n' + m') cp cur.size hmo rfl (by rw [hkk,hn',hm]; simp) hroom hc ?_ (by omega)
       rw [ht.shape]; exact hs'
     have hcat : ∃ sc,iadd n m fun k => K (LS.put { s with h := (s.n,.pure sc (al ++ b)) :: hdel s.h i',n := s.n + 1 } o.dst (.sl s.n e'' te.size (.lit 0) k)) := by
      unfold catL at h
      split at h
      ·exact ⟨_,h⟩
      ·exact ⟨_,upd h⟩
     clear h
     obtain ⟨sc,h⟩ := hcat
     have hia := iadd_sound h
     clear h
     obtain ⟨kk,hkk,h⟩ := hia
     obtain ⟨mo,hmo,hBR⟩ := hs.hr.live i' _ hB
     have hil := live_lt hs.hr.fresh hmo
     have fresh : ∀ {n' old : Nat} {olds : List Value} {cap : Nat},n.val = (n' : Int) → Rel2 c w (pvs al) olds → olds.length = n' * te.size → cap = grownCap w (n' + m') old e'' → n' + m' ≤ maxLen →
       (Builtin.append_ #[t,t'] o.type #[v,u]).run P w = .ok (.slice (some ⟨w.heap.size,0,none⟩) (n' + m') cap) (w.drew.alloc (.cells (olds.toArray ++ news.toArray ++ Builtin.zeroCells z.cells (cap - (n' + m'))) e'')) → o.wp P a w (Post K c w) Q := by
      intro n' old olds cap hn' hro hol hcap hmx hr
      have hge := grownCap_ge w (n' + m') old e''
      have hcm := grownCap_le_maxLen w (n' + m') old e'' hmx
      rw [← hcap] at hge hcm
      have harr : olds.toArray ++ news.toArray ++ Builtin.zeroCells z.cells (cap - (n' + m')) = ((olds ++ news) ++ (Builtin.zeroCells z.cells (cap - (n' + m'))).toList).toArray := by simp
      rw [harr] at hr
      have hd := hs.hr.drop i'
      have ed := Ext.drop hs.hr i'
      have hpv := pvs_append al b
      have res := newRow_res hd (e := e'') (sz := te.size) (k := n' + m') (cap := cap) (kk := kk) (sy := sc) (l := al ++ b) (xs := olds ++ news) (rest := (Builtin.zeroCells z.cells (cap - (n' + m'))).toList) (by
       rw [hpv]; exact (hro.append hrelb).ext hs.hr ed) (by rw [hkk,hn',hm]; simp) hge hcm (by
       rw [List.length_append,List.length_append,hzl,hol,hnl,hsz,← Nat.add_mul,← Nat.add_mul]; congr 1; omega)
      refine op_world hs (hrun hr) (ed.trans res.1) res.2.1 (show c.N + 1 = s.n + 1 by rw [hs.nn]) (u := .sl s.n e'' te.size (.lit 0) kk) ?_ (by
       have e0 : (c.drop i').N = s.n := hs.nn
       rw [e0]; exact h)
      rw [← hs.nn]; exact res.2.2
     cases hx with
     | goneS _ _ _ _ _ _ _ _ hm' _ => rw [hmo] at hm'; cases hm'
     | slz _ _ _ _ _ _ _ _ _ ho' _ _ h0' => exfalso; rw [hj] at ho'; simp only [I.val] at ho'; omega
     | slv _ _ _ _ _ hm' ho' hn' =>
      rw [hmo] at hm'; cases hm'
      have hal0 : al = [] := hBR
      subst hal0
      rw [hn',hm] at hb1 hb2
      rcases Nat.eq_zero_or_pos m' with h0 | h0
      ·subst h0
       have hb0 : b = [] := List.eq_nil_of_length_eq_zero (by omega)
       subst hb0
       have hr : (Builtin.append_ #[t,t'] o.type #[.slice none 0 0,u]).run P w = .ok (.slice none 0 0) w := by
        rcases hsrc with ⟨rfl,⟨cp,rfl,_⟩ | ⟨ad,cp,rfl,_⟩⟩ | ⟨hu',_,st,rfl,hst,_⟩
        ·exact append_none t _ e'' i hu hi none 0 0 cp (Nat.le_refl _)
        ·exact append_zero t _ e'' i hu hi none 0 0 cp ad (Nat.le_refl _)
        ·exact append_str0 t t' _ e'' i hu hu' hi none 0 0 st hst (Nat.le_refl _)
       refine op_world hs (hrun hr) (Ext.move hs.hr hil) (hs.hr.move hmo (B := .pure sc ([] ++ [])) (by simp [BR])) (show c.N + 1 = s.n + 1 by rw [hs.nn]) (u := .sl s.n e'' te.size (.lit 0) kk) ?_ (by rw [hs.nn]; exact h)
       rw [← hs.nn]; exact .slv _ _ _ _ _ ((move_new hil).trans hmo) rfl (by rw [hkk,hn',hm]; rfl)
      ·have hb1 := bound (k := m') (by simpa using hb1)
       have hr : (Builtin.append_ #[t,t'] o.type #[.slice none 0 0,u]).run P w = .ok (.slice (some ⟨w.heap.size,0,none⟩) m' (grownCap w m' 0 e'')) (w.drew.alloc (.cells (news.toArray ++ Builtin.zeroCells z.cells (grownCap w m' 0 e'' - m')) e'')) := by
        rcases hsrc with ⟨rfl,⟨cp,rfl,h1,_⟩ | ⟨ad,cp,rfl,hcell⟩⟩ | ⟨hu',hs1,st,rfl,hst,hnw⟩
        ·omega
        ·exact run_append_nil (P := P) w t o.type e'' i z hu hi hz ad m' cp news hnl hcell h0 (by omega) (by rw [hby]; omega)
        ·subst hst hnw
         have := run_append_nil_string (P := P) w t t' o.type e'' i z hu hu' hi hz st h0 (by omega) (by rw [hby]; omega)
         rw [this,show st.data.map (fun b => Value.int .u8 b.toNat) = (Lib.strCells st).toArray by apply Array.ext'; simp [Lib.strCells]]
       refine fresh (n' := 0) (old := 0) (olds := []) (cap := grownCap w m' 0 e'') hn' Rel2.nil (by simp) (by simp) (by omega) ?_
       simpa using hr
     | sl _ _ _ _ _ r j' n' cp tot hm' ho' hn' hk' hc hs' ht' =>
      rw [hmo] at hm'; cases hm'
      obtain ⟨cur,ty,hg,hle,hrel⟩ := hBR
      have hj0 : j' = 0 := by rw [hj] at ho'; simp only [I.val] at ho'; omega
      subst hj0
      have hsh : ty = e'' ∧ cur.size = tot := by
       rw [World.shape?,hg] at hs'
       cases hs'; exact ⟨rfl,rfl⟩
      obtain ⟨rfl,rfl⟩ := hsh
      rw [hn',hm] at hb1 hb2
      have hb1 := bound (k := n' + m') (by push_cast; exact hb1)
      have hmx : n' + m' ≤ maxLen := by unfold maxLen; omega
      have hal' : al.length = n' * te.size := by rw [hn'] at hal; exact_mod_cast hal
      have hro : Rel2 c w (pvs al) (cur.toList.take (n' * te.size)) := by
       refine ⟨by rw [pvs_length]; simp; omega,fun j u hu => ?_⟩
       rw [pvs_get] at hu
       cases e : al[j]? with
       | none => rw [e] at hu; cases hu
       | some v =>
        rw [e] at hu; cases hu
        have hjl : j < al.length := (List.getElem?_eq_some_iff.1 e).1
        have hc' : cur[j]? = some (cur[j]'(by omega)) := Array.getElem?_eq_getElem (by omega)
        refine ⟨cur[j]'(by omega),by rw [List.getElem?_take,if_pos (by omega)]; simp,.p _ _ ?_⟩
        have := hrel j v e
        rwa [Array.getD_eq_getD_getElem?,hc'] at this
      by_cases hroom : n' + m' ≤ cp
      ·-- there is room
       have hfit : n' * i.size + news.length ≤ cur.size := by rw [hnl,hsz,← Nat.add_mul]; have := Nat.mul_le_mul_right te.size hroom; omega
       have hrun2 : ∃ rr,(Builtin.append_ #[t,t'] o.type #[.slice (some ⟨r,0,none⟩) n' cp,u]).run P w = .ok (.slice (some ⟨r,0,none⟩) (n' + m') cp) (w.setRow r (over cur.toList (n' * te.size) news).toArray) ∧ rr = 0 := by
        refine ⟨0,?_,rfl⟩
        rcases hsrc with ⟨rfl,⟨cp',rfl,rfl,rfl⟩ | ⟨ad,cp',rfl,hcell⟩⟩ | ⟨hu',hs1,st,rfl,hst,hnw⟩
        ·rw [append_none t _ ty i hu hi _ n' cp cp' hk']
         have : (over cur.toList (n' * te.size) []).toArray = cur := by simp [over]
         rw [this,setRow_self w r cur ty (0,0) hg,Nat.add_zero]
        ·have := run_append_room (P := P) w t o.type ty i hu hi r n' cp cur hg ad m' cp' news hnl hcell (hrelb.ones (allOk_pvs b)) hroom hfit
         rw [hsz] at this
         exact this
        ·subst hst hnw
         have := Lib.run_append_room_string (P := P) w t t' o.type _ i hu hu' hi (by rw [hsz]; exact hs1) r n' cp cur hg st hroom (by rw [hsz,hs1,Lib.strCells_length] at hfit; omega)
         rw [this]
         simp only [over,Lib.strCells_length,hs1,Nat.mul_one]
       obtain ⟨_,hr,_⟩ := hrun2
       have hsz3 : (over cur.toList (n' * te.size) news).toArray.size = cur.size := by
        rw [List.size_toArray,over_length _ _ _ (by rw [Array.length_toList]; rw [hsz] at hfit; exact hfit),Array.length_toList]
       have ht := turn_row (w := w) (cs := (over cur.toList (n' * te.size) news).toArray) hg hsz3
       have hmv := hs.hr.move hmo (B := .pure sa al) ⟨cur,ty,hg,hle,hrel⟩
       have emv := Ext.move hs.hr hil
       have hmN : (c.move i').m c.N = some (some r) := (move_new hil).trans hmo
       have hgetN : hget ((c.N,LB.pure sa al) :: hdel s.h i') c.N = some (.pure sa al) := by rw [hget_cons,if_pos rfl]
       have et := Ext.turn hmv hmN ht
       have hB' : BR (c.move i') (w.setRow r (over cur.toList (n' * te.size) news).toArray) (.pure sc (al ++ b)) (some r) := by
        refine ⟨_,ty,setRow_heap w r cur _ ty (0,0) hg,?_,fun j u hu => ?_⟩
        ·rw [hsz3,List.length_append,hal',hbl]; rw [hnl,hsz] at hfit; exact hfit
        ·refine PR.ext hs.hr.fresh (emv.trans et) ?_
         rw [Array.getD_eq_getD_getElem?,List.getElem?_toArray,over_get _ _ _ (by rw [Array.length_toList]; rw [hsz] at hfit; exact hfit)]
         by_cases h1 : j < n' * te.size
         ·rw [if_pos h1]
          rw [List.getElem?_append_left (by omega)] at hu
          have := hrel j u hu
          rwa [Array.getD_eq_getD_getElem?,← Array.getElem?_toList] at this
         ·rw [if_neg h1]
          rw [List.getElem?_append_right (by omega),hal'] at hu
          have hjb := (List.getElem?_eq_some_iff.1 hu).1
          rw [if_pos (by rw [hnl,hsz]; omega)]
          obtain ⟨x,h3,h4⟩ := hrelb.2 _ (.p u) (by rw [pvs_get,hu]; rfl)
          rw [h3]
          cases h4 with | p _ _ h => exact h
       have hfin := hmv.turn hgetN hmN ht hB'
       have hset : hset ((c.N,LB.pure sa al) :: hdel s.h i') c.N (.pure sc (al ++ b)) = (c.N,.pure sc (al ++ b)) :: hdel s.h i' := by
        simp [hset,Nat.beq_refl]
       rw [hset] at hfin
       refine op_world hs (hrun hr) (emv.trans et) hfin (show c.N + 1 = s.n + 1 by rw [hs.nn]) (u := .sl s.n ty te.size (.lit 0) kk) ?_ (by rw [hs.nn]; exact h)
       rw [← hs.nn]
       refine .sl _ _ _ _ _ r 0 (n' + m') cp cur.size hmN rfl (by rw [hkk,hn',hm]; simp) hroom hc ?_ (by omega)
       rw [ht.shape]; exact hs'
      ·-- there is none
       have hol : (cur.toList.take (n' * te.size)).length = n' * i.size := by rw [hsz,← hro.1,pvs_length,hal']
       have hcut : ∀ j v,(cur.toList.take (n' * te.size))[j]? = some v → w.cell? ((⟨r,0,none⟩ : Addr).add j) = some v := fun j v hj => cells_at (w := w) (n := 0) hg (n' * te.size) (by omega) j v (by simpa using hj)
       rcases hsrc with ⟨rfl,⟨cp',rfl,rfl,rfl⟩ | ⟨ad,cp',rfl,hcell⟩⟩ | ⟨hu',hs1,st,rfl,hst,hnw⟩
       ·omega
       ·have hr := run_append_grow (P := P) w t o.type ty i z hu hi hz ⟨r,0,none⟩ n' cp (cur.toList.take (n' * te.size)) hol hcut ad m' cp' news hnl hcell (by omega) (by rw [Int.natCast_add]; exact hb2) (growslice_fits (by omega) (by rw [hby]; exact hb1))
        exact fresh (n' := n') (old := cp) hn' hro (by rw [hol,hsz]) rfl hmx hr
       ·subst hst hnw
        have hr := Lib.run_append_grow_string (P := P) w t t' o.type ty i z hu hu' hi hz ⟨r,0,none⟩ n' cp (cur.toList.take (n' * te.size)) hol hcut st (by omega) (by rw [Int.natCast_add]; exact hb2) (growslice_fits (by omega) (by rw [hby]; exact hb1))
        exact fresh (n' := n') (old := cp) hn' hro (by rw [hol,hsz]) rfl hmx hr
    ·exact h.elim
 ·exact h.elim
theorem run_append_roomO (t ty e : TypeId) (i : TypeInfo) (ht : P.underlying t = some (.slice e)) (hi : P.info? e = some i)
  (g f sLen sCap : Nat) (cur : Array Value) (hg : w.heap[g]? = some (.cells cur e (0,0)))
  (a : Addr) (m c : Nat) (news : List Value) (hl : news.length = m * i.size) (hnews : ∀ j u,news[j]? = some u → w.cell? (a.add j) = some u) (h1 : ∀ u ∈ news,u.oneCell' = true)
  (hroom : sLen + m ≤ sCap) (hfit : f + sLen * i.size + news.length ≤ cur.size) :
  (Builtin.append_ #[t,t] ty #[.slice (some ⟨g,f,none⟩) sLen sCap,.slice (some a) m c]).run P w =
   .ok (.slice (some ⟨g,f,none⟩) (sLen + m) sCap) (w.setRow g (over cur.toList (f + sLen * i.size) news).toArray) := by
 have hf := run_firstCells_some (P := P) w i.size m a m c news hl hnews
 have hst := run_storeCells_at P g (f + sLen * i.size) e news 0 cur w hg (by simpa using hfit) h1
 simp only [Nat.add_zero] at hst
 have had : (⟨g,f,none⟩ : Addr).add (sLen * i.size) = ⟨g,f + sLen * i.size,none⟩ := add_lit _ _ _
 simp [Builtin.append_,run_underlying ht,sizeOf,typeInfo,hi,Builtin.lenOf,hroom,hf,had,hst,over]
theorem appendO_sound (hT : TOK P T) {cl : Call} {x : LV} {t e m' : Nat} {ti te : TI} {b : List PV} {m : I} {news : List Value} {v u : Value} (ho : o.op = .call cl) (hcl : cl.callee = .builtin .append) (hv : cl.args.map a.eval = #[v,u]) (hx : LR c w x v) (hty : cl.argTypes = #[t,t]) (ht : lget T t = some ti) (hk : ti.kind = .slice e) (hte : lget T e = some te)
  (hs : St c s a w) (hlen : te.zero.length = te.size) (hpos : 1 ≤ te.size) (hm : m.val = ((m' : Nat) : Int)) (hsrc : Src w u m' news) (hrelb : Rel2 c w (pvs b) news) (hnl : news.length = m' * te.size) (hmm : m' ≤ maxLen) (h : appendO s e te b m x fun r s' => K (s'.put o.dst r)) : o.wp P a w (Post K c w) Q := by
 obtain ⟨d,hu,hkd⟩ := tok_under (hT t ti ht)
 rw [hk] at hkd
 cases d <;> try exact hkd.elim
 rename_i e'
 have hkd : e = e' := hkd
 subst hkd
 obtain ⟨⟨i,z,_,hi,hsz,hby,hz,hzc,_⟩,_⟩ := hT e te hte
 have hrun : ∀ {r w'},(Builtin.append_ #[t,t] o.type #[v,u]).run P w = .ok r w' → (execOp a.eval o).run P w = .ok (.value r) w' := by
  intro r w' h
  refine built_run ho hcl fun cs => ?_
  rw [hv,hty]
  unfold builtin
  exact runv h
 unfold appendO at h
 have hzsz : z.cells.size = te.size := by
  have : z.cells.toList.length = te.zero.length := by rw [hzc,List.length_map]
  rw [Array.length_toList] at this; omega
 have hbl : b.length = m' * te.size := by rw [← hnl,← hrelb.1,pvs_length]
 rw [← hsz] at hnl
 have hzl : ∀ n,(Builtin.zeroCells z.cells n).toList.length = n * te.size := fun n => by rw [Array.length_toList,size_zeroCells,hzsz]
 have bound : ∀ {k : Nat},(k : Int) * te.bytes ≤ 140737488355328 → k * te.bytes ≤ 140737488355328 := fun {k} h => by
  have h2 : ((k * te.bytes : Nat) : Int) ≤ 140737488355328 := by rw [Int.natCast_mul]; exact h
  omega
 split at h
 ·rename_i i' e'' sz' of n
  split at h
  ·rename_i sa al hB
   split at h
   ·rename_i hsz' he'
    have hsz' := Nat.eq_of_beq_eq_true hsz'
    have he' := Nat.eq_of_beq_eq_true he'
    subst hsz' he'
    obtain ⟨⟨ho0,hn0,hal,hb1,hb2⟩,hin,hmv⟩ := need h
    clear h
    have hin := upd hin
    obtain ⟨k1,hk1,hin⟩ := iadd_sound hin
    have hmv := upd hmv
    obtain ⟨k2,hk2,hmv⟩ := iadd_sound hmv
    obtain ⟨mo,hmo,hBR⟩ := hs.hr.live i' _ hB
    have fresh : ∀ {n' old : Nat} {olds : List Value} {cap : Nat},n.val = (n' : Int) → Rel2 c w (pvs (al.drop of.val.toNat)) olds → olds.length = n' * te.size → cap = grownCap w (n' + m') old e'' → n' + m' ≤ maxLen →
      (Builtin.append_ #[t,t] o.type #[v,u]).run P w = .ok (.slice (some ⟨w.heap.size,0,none⟩) (n' + m') cap) (w.drew.alloc (.cells (olds.toArray ++ news.toArray ++ Builtin.zeroCells z.cells (cap - (n' + m'))) e'')) → o.wp P a w (Post K c w) Q := by
     intro n' old olds cap hn' hro hol hcap hmx hr
     have hge := grownCap_ge w (n' + m') old e''
     have hcm := grownCap_le_maxLen w (n' + m') old e'' hmx
     rw [← hcap] at hge hcm
     have harr : olds.toArray ++ news.toArray ++ Builtin.zeroCells z.cells (cap - (n' + m')) = ((olds ++ news) ++ (Builtin.zeroCells z.cells (cap - (n' + m'))).toList).toArray := by simp
     rw [harr] at hr
     have hpv := pvs_append (al.drop of.val.toNat) b
     have res := newRow_res hs.hr (e := e'') (sz := te.size) (k := n' + m') (cap := cap) (kk := k2) (sy := true) (l := al.drop of.val.toNat ++ b) (xs := olds ++ news) (rest := (Builtin.zeroCells z.cells (cap - (n' + m'))).toList) (by
      rw [hpv]; exact hro.append hrelb) (by rw [hk2,hn',hm]; simp) hge hcm (by
      rw [List.length_append,List.length_append,hzl,hol,hnl,hsz,← Nat.add_mul,← Nat.add_mul]; congr 1; omega)
     refine op_world hs (hrun hr) res.1 res.2.1 (show c.N + 1 = s.n + 1 by rw [hs.nn]) (u := .sl s.n e'' te.size (.lit 0) k2) ?_ (by rw [hs.nn]; exact hmv)
     rw [← hs.nn]; exact res.2.2
    cases hx with
    | goneS _ _ _ _ _ _ _ _ hm' _ => rw [hmo] at hm'; cases hm'
    | slv _ _ _ _ _ hm' ho' hn' =>
     rw [hmo] at hm'; cases hm'
     have hal0 : al = [] := hBR
     subst hal0
     rw [hn',hm] at hb1 hb2
     rcases Nat.eq_zero_or_pos m' with h0 | h0
     ·subst h0
      have hb0 : b = [] := List.eq_nil_of_length_eq_zero (by omega)
      subst hb0
      have hr : (Builtin.append_ #[t,t] o.type #[.slice none 0 0,u]).run P w = .ok (.slice none 0 0) w := by
       rcases hsrc with ⟨cp,rfl,_⟩ | ⟨ad,cp,rfl,_⟩
       ·exact append_none t _ e'' i hu hi none 0 0 cp (Nat.le_refl _)
       ·exact append_zero t _ e'' i hu hi none 0 0 cp ad (Nat.le_refl _)
      have hset0 := hs.hr.reset (B' := .pure true ([] ++ [])) hB hmo (by simp [BR])
      refine op_world hs (hrun hr) (Ext.refl hs.hr) hset0 (show c.N = s.n from hs.nn) (u := .sl i' e'' te.size of k1) ?_ hin
      exact .slv _ _ _ _ _ hmo ho' (by rw [hk1,hn',hm]; rfl)
     ·have hb1 := bound (k := m') (by simpa using hb1)
      have hr : (Builtin.append_ #[t,t] o.type #[.slice none 0 0,u]).run P w = .ok (.slice (some ⟨w.heap.size,0,none⟩) m' (grownCap w m' 0 e'')) (w.drew.alloc (.cells (news.toArray ++ Builtin.zeroCells z.cells (grownCap w m' 0 e'' - m')) e'')) := by
       rcases hsrc with ⟨cp,rfl,h1,_⟩ | ⟨ad,cp,rfl,hcell⟩
       ·omega
       ·exact run_append_nil (P := P) w t o.type e'' i z hu hi hz ad m' cp news hnl hcell h0 (by omega) (by rw [hby]; omega)
      refine fresh (n' := 0) (old := 0) (olds := []) (cap := grownCap w m' 0 e'') hn' (by rw [List.drop_nil]; exact Rel2.nil) (by simp) (by simp) (by omega) ?_
      simpa using hr
    | slz _ _ _ _ _ a0 r tot hm' ho' hn' hs' h0' =>
     rw [hmo] at hm'; cases hm'
     rw [hn',hm] at hb1 hb2
     have hd0 : al.drop of.val.toNat = [] := by
      rw [hn'] at hal
      exact List.drop_eq_nil_of_le (by omega)
     rcases Nat.eq_zero_or_pos m' with h0 | h0
     ·subst h0
      have hb0 : b = [] := List.eq_nil_of_length_eq_zero (by omega)
      subst hb0
      have hr : (Builtin.append_ #[t,t] o.type #[.slice a0 0 0,u]).run P w = .ok (.slice a0 0 0) w := by
       rcases hsrc with ⟨cp,rfl,_⟩ | ⟨ad,cp,rfl,_⟩
       ·exact append_none t _ e'' i hu hi a0 0 0 cp (Nat.le_refl _)
       ·exact append_zero t _ e'' i hu hi a0 0 0 cp ad (Nat.le_refl _)
      have hset0 := hs.hr.reset (B' := .pure true (al ++ [])) hB hmo (by rw [List.append_nil]; exact hBR)
      refine op_world hs (hrun hr) (Ext.refl hs.hr) hset0 (show c.N = s.n from hs.nn) (u := .sl i' e'' te.size of k1) ?_ hin
      exact .slz _ _ _ _ _ a0 r tot hmo ho' (by rw [hk1,hn',hm]; rfl) hs' h0'
     ·have hb1 := bound (k := m') (by simpa using hb1)
      have hr : (Builtin.append_ #[t,t] o.type #[.slice a0 0 0,u]).run P w = .ok (.slice (some ⟨w.heap.size,0,none⟩) m' (grownCap w m' 0 e'')) (w.drew.alloc (.cells (news.toArray ++ Builtin.zeroCells z.cells (grownCap w m' 0 e'' - m')) e'')) := by
       rcases hsrc with ⟨cp,rfl,h1,_⟩ | ⟨ad,cp,rfl,hcell⟩
       ·omega
       ·cases a0 with
        | none => exact run_append_nil (P := P) w t o.type e'' i z hu hi hz ad m' cp news hnl hcell h0 (by omega) (by rw [hby]; omega)
        | some a0 =>
         have := run_append_grow (P := P) w t o.type e'' i z hu hi hz a0 0 0 [] (by simp) (fun j v hj => by simp at hj) ad m' cp news hnl hcell (by omega) (by simpa using hb2) (growslice_fits (by omega) (by rw [hby]; simpa using hb1))
         simpa using this
      refine fresh (n' := 0) (old := 0) (olds := []) (cap := grownCap w m' 0 e'') hn' (by rw [hd0]; exact Rel2.nil) (by simp) (by simp) (by omega) ?_
      simpa using hr
    | sl _ _ _ _ _ r j' n' cp tot hm' ho' hn' hk' hc hs' ht' =>
     rw [hmo] at hm'; cases hm'
     obtain ⟨cur,ty,hg,hle,hrel⟩ := hBR
     have hsh : ty = e'' ∧ cur.size = tot := by
      rw [World.shape?,hg] at hs'
      cases hs'; exact ⟨rfl,rfl⟩
     obtain ⟨rfl,rfl⟩ := hsh
     rw [hn',hm] at hb1 hb2
     have hb1 := bound (k := n' + m') (by push_cast; exact hb1)
     have hmx : n' + m' ≤ maxLen := by unfold maxLen; omega
     have hal' : al.length = j' + n' * te.size := by rw [hn',ho'] at hal; exact_mod_cast hal
     have hof : of.val.toNat = j' := by rw [ho']; rfl
     have hro : Rel2 c w (pvs (al.drop of.val.toNat)) ((cur.toList.drop j').take (n' * te.size)) := by
      rw [hof]
      refine ⟨by rw [pvs_length]; simp; omega,fun j u hu => ?_⟩
      rw [pvs_get,List.getElem?_drop] at hu
      cases e : al[j' + j]? with
      | none => rw [e] at hu; cases hu
      | some v =>
       rw [e] at hu; cases hu
       have hjl : j' + j < al.length := (List.getElem?_eq_some_iff.1 e).1
       have hc' : cur[j' + j]? = some (cur[j' + j]'(by omega)) := Array.getElem?_eq_getElem (by omega)
       refine ⟨cur[j' + j]'(by omega),by rw [List.getElem?_take,if_pos (by omega),List.getElem?_drop]; simp,.p _ _ ?_⟩
       have := hrel (j' + j) v e
       rwa [Array.getD_eq_getD_getElem?,hc'] at this
     by_cases hroom : n' + m' ≤ cp
     ·-- there is room
      have hfit : j' + n' * i.size + news.length ≤ cur.size := by rw [hnl,hsz,Nat.add_assoc,← Nat.add_mul]; have := Nat.mul_le_mul_right te.size hroom; omega
      have hr : (Builtin.append_ #[t,t] o.type #[.slice (some ⟨r,j',none⟩) n' cp,u]).run P w = .ok (.slice (some ⟨r,j',none⟩) (n' + m') cp) (w.setRow r (over cur.toList (j' + n' * te.size) news).toArray) := by
       rcases hsrc with ⟨cp',rfl,rfl,rfl⟩ | ⟨ad,cp',rfl,hcell⟩
       ·rw [append_none t _ ty i hu hi _ n' cp cp' hk']
        have : (over cur.toList (j' + n' * te.size) []).toArray = cur := by simp [over]
        rw [this,setRow_self w r cur ty (0,0) hg,Nat.add_zero]
       ·have := run_append_roomO (P := P) (w := w) t o.type ty i hu hi r j' n' cp cur hg ad m' cp' news hnl hcell (hrelb.ones (allOk_pvs b)) hroom hfit
        rw [hsz] at this
        exact this
      have hsz3 : (over cur.toList (j' + n' * te.size) news).toArray.size = cur.size := by
       rw [List.size_toArray,over_length _ _ _ (by rw [Array.length_toList]; rw [hsz] at hfit; exact hfit),Array.length_toList]
      have ht := turn_row (w := w) (cs := (over cur.toList (j' + n' * te.size) news).toArray) hg hsz3
      have et := Ext.turn hs.hr hmo ht
      have hB' : BR c (w.setRow r (over cur.toList (j' + n' * te.size) news).toArray) (.pure true (al ++ b)) (some r) := by
       refine ⟨_,ty,setRow_heap w r cur _ ty (0,0) hg,?_,fun j u hu => ?_⟩
       ·rw [hsz3,List.length_append,hal',hbl]; rw [hnl,hsz] at hfit; exact hfit
       ·refine PR.ext hs.hr.fresh et ?_
        rw [Array.getD_eq_getD_getElem?,List.getElem?_toArray,over_get _ _ _ (by rw [Array.length_toList]; rw [hsz] at hfit; exact hfit)]
        by_cases h1 : j < j' + n' * te.size
        ·rw [if_pos h1]
         rw [List.getElem?_append_left (by omega)] at hu
         have := hrel j u hu
         rwa [Array.getD_eq_getD_getElem?,← Array.getElem?_toList] at this
        ·rw [if_neg h1]
         rw [List.getElem?_append_right (by omega),hal'] at hu
         have hjb := (List.getElem?_eq_some_iff.1 hu).1
         rw [if_pos (by rw [hnl,hsz]; omega)]
         obtain ⟨x,h3,h4⟩ := hrelb.2 _ (.p u) (by rw [pvs_get,hu]; rfl)
         rw [h3]
         cases h4 with | p _ _ h => exact h
      have hfin := hs.hr.turn hB hmo ht hB'
      refine op_world hs (hrun hr) et hfin (show c.N = s.n from hs.nn) (u := .sl i' ty te.size of k1) ?_ hin
      refine .sl _ _ _ _ _ r j' (n' + m') cp cur.size hmo ho' (by rw [hk1,hn',hm]; simp) hroom hc ?_ (by omega)
      rw [ht.shape]; exact hs'
     ·-- there is none
      have hol : ((cur.toList.drop j').take (n' * te.size)).length = n' * i.size := by rw [hsz,← hro.1,pvs_length,List.length_drop,hal',hof]; omega
      have hcut : ∀ j v,((cur.toList.drop j').take (n' * te.size))[j]? = some v → w.cell? ((⟨r,j',none⟩ : Addr).add j) = some v := fun j v hj => cells_at (w := w) (n := j') hg (n' * te.size) (by omega) j v hj
      rcases hsrc with ⟨cp',rfl,rfl,rfl⟩ | ⟨ad,cp',rfl,hcell⟩
      ·omega
      ·have hr := run_append_grow (P := P) w t o.type ty i z hu hi hz ⟨r,j',none⟩ n' cp ((cur.toList.drop j').take (n' * te.size)) hol hcut ad m' cp' news hnl hcell (by omega) (by rw [Int.natCast_add]; exact hb2) (growslice_fits (by omega) (by rw [hby]; exact hb1))
       exact fresh (n' := n') (old := cp) hn' hro (by rw [hol,hsz]) rfl hmx hr
   ·exact h.elim
  ·exact h.elim
 ·exact h.elim
theorem lop_append (hT : TOK P T) {cl : Call} {x y : LV} {t e : Nat} {ti te : TI} (ho : o.op = .call cl) (hcl : cl.callee = .builtin .append) (hargs : eva s cl.args.toList = [x,y]) (hty : cl.argTypes = #[t,t]) (ht : lget T t = some ti) (hk : ti.kind = .slice e) (hte : lget T e = some te)
  (hs : St c s a w) (h : appendL s e te x y fun r s' => K (s'.put o.dst r)) : o.wp P a w (Post K c w) Q := by
 obtain ⟨v,u,hv,hx,hy⟩ := args2 hs hargs
 unfold appendL at h
 split at h
 ·rename_i hok hlen hpos
  have hpos := Nat.le_of_ble_eq_true hpos
  have hlen := Nat.eq_of_beq_eq_true hlen
  rw [llen_eq,pvs_length] at hlen
  obtain ⟨sb,b,m,m',news,h,hm,hsrc,hrelb,hnl,hmm⟩ := newCells_sound hs hy hpos h
  split at h
  ·exact appendO_sound hT ho hcl hv hx hty ht hk hte hs hlen hpos hm hsrc hrelb hnl hmm h
  ·exact appendC_sound hT ho hcl hv hx hty ht hk hte hs hlen hpos hm (.inl ⟨rfl,hsrc⟩) hrelb hnl hmm h
 ·exact h.elim
theorem bytesPV_rel (s : ByteArray) : Rel2 c w (pvs (bytesPV s)) (Lib.strCells s) := by
 refine ⟨by rw [pvs_length,bytesPV,List.length_map,Lib.strCells,List.length_map],fun j u hu => ?_⟩
 rw [pvs_get,bytesPV,List.getElem?_map] at hu
 rw [Lib.strCells,List.getElem?_map]
 cases e : s.data.toList[j]? with
 | none => rw [e] at hu; cases hu
 | some d => rw [e] at hu; cases hu; exact ⟨_,rfl,.p _ _ (.int _ _ _ rfl)⟩
theorem lop_appendS (hT : TOK P T) {cl : Call} {x y : LV} {t t' e : Nat} {ti te : TI} (ho : o.op = .call cl) (hcl : cl.callee = .builtin .append) (hargs : eva s cl.args.toList = [x,y]) (hty : cl.argTypes = #[t,t']) (ht : lget T t = some ti) (hk : ti.kind = .slice e) (hk' : tkOf T t' = .str) (hte : lget T e = some te)
  (hs : St c s a w) (h : appendS s e te x y fun r s' => K (s'.put o.dst r)) : o.wp P a w (Post K c w) Q := by
 obtain ⟨v,u,hv,hx,hy⟩ := args2 hs hargs
 have hu' : P.underlying t' = some .string := by
  unfold tkOf at hk'
  split at hk'
  ·rename_i tu htu
   obtain ⟨d,h1,h2⟩ := tok_under (hT t' tu htu)
   rw [hk'] at h2
   cases d <;> first | exact h2.elim | exact h1
  ·cases hk'
 unfold appendS at h
 split at h
 ·rename_i hu8
  have hsz : te.size = 1 ∧ te.zero.length = 1 := by
   unfold isU8 at hu8
   split at hu8
   ·split at hu8
    ·split at hu8
     ·rename_i h1 h2; exact ⟨Nat.eq_of_beq_eq_true h1,by rw [h2]; rfl⟩
     ·cases hu8
    ·cases hu8
   ·cases hu8
  split at h
  ·rename_i z
   obtain ⟨hmx,h⟩ := need h
   have hmx : (z ()).size ≤ maxLen := by unfold maxLen; omega
   have h := upd h
   obtain ⟨m,hm,h⟩ := sum h
   cases hy with
   | p _ _ hp =>
    cases hp
    have hl : (Lib.strCells (z ())).length = (z ()).size := Lib.strCells_length _
    exact appendC_sound hT ho hcl hv hx hty ht hk hte hs (by omega) (by omega) hm (.inr ⟨hu',hsz.1,_,rfl,rfl,rfl⟩) (bytesPV_rel _) (by rw [hl,hsz.1,Nat.mul_one]) hmx h
  ·exact h.elim
 ·exact h.elim
theorem repsP_get {z : List PV} (hz : 1 ≤ z.length) : ∀ (n j : Nat) (u : PV),(repsP z n)[j]? = some u → j < n * z.length ∧ z[j % z.length]? = some u
 | 0,j,u,h => by simp [repsP] at h
 | n + 1,j,u,h => by
  rw [repsP] at h
  by_cases h1 : j < z.length
  ·rw [List.getElem?_append_left h1] at h
   rw [Nat.mod_eq_of_lt h1]
   exact ⟨by rw [Nat.add_mul]; omega,h⟩
  ·rw [List.getElem?_append_right (by omega)] at h
   obtain ⟨h2,h3⟩ := repsP_get hz n _ u h
   refine ⟨by rw [Nat.add_mul]; omega,?_⟩
   rw [← h3,show j = (j - z.length) + z.length by omega]
   simp
theorem repsP_length (z : List PV) : ∀ n,(repsP z n).length = n * z.length
 | 0 => by simp [repsP]
 | n + 1 => by rw [repsP,List.length_append,repsP_length z n,Nat.add_mul]; omega
theorem made {z : List PV} {m : I} {L : Bool → List PV → Prop} (h : madeL z m L) : ∃ sy,L sy (repsP z m.val.toNat) := by
 unfold madeL at h
 split at h
 ·split at h
  ·exact ⟨_,h⟩
  ·exact ⟨_,upd h⟩
 ·exact ⟨_,upd h⟩
theorem lop_makeSlice (hT : TOK P T) {t e : TypeId} {len cap : Operand} {ti te : TI} {kn km : IntKind} {n m : I} (ht : lget T t = some ti) (hk : ti.kind = .slice e) (hte : lget T e = some te) (hzl : Nat.beq (llen (pvs te.zero)) te.size = true) (hpos : Nat.ble 1 te.size = true)
  (hn : ev s len = .p (.int kn n)) (hm : ev s cap = .p (.int km m)) (ho : o.op = .makeSlice t len cap) (hs : St c s a w)
  (h : Need (fun _ => 0 ≤ n.val ∧ n.val ≤ m.val ∧ m.val * te.bytes ≤ 140737488355328 ∧ m.val ≤ 9223372036854775807) fun _ => madeL te.zero m fun sy l => K ((s.new (.pure sy l)).put o.dst (.sl s.n e te.size (.lit 0) n))) : o.wp P a w (Post K c w) Q := by
 obtain ⟨⟨h1,h2,h3,h4⟩,h⟩ := need h
 obtain ⟨sy,h⟩ := made h
 obtain ⟨d,hu,hkd⟩ := tok_under (hT t ti ht)
 rw [hk] at hkd
 cases d <;> try exact hkd.elim
 rename_i e'
 have hkd : e = e' := hkd
 subst hkd
 have hpos := Nat.le_of_ble_eq_true hpos
 have hzl := Nat.eq_of_beq_eq_true hzl
 rw [llen_eq,pvs_length] at hzl
 obtain ⟨⟨i,z,_,hi,hsz,hby,hz,hzc,_⟩,hzs⟩ := hT e te hte
 have hzrel : Rel2 c w (pvs te.zero) z.cells.toList := by rw [hzc]; exact zero_rel c w _ hzs
 have hln : a.eval len = .int kn n.val := LR.inv_int (hn ▸ hs.ev len)
 have hlm : a.eval cap = .int km m.val := LR.inv_int (hm ▸ hs.ev cap)
 have hr := run_make (P := P) w t e i z hu hi hz kn km n.val m.val h1 h2 (by rw [hby,Int.mul_comm]; omega) h4
 rw [hsz] at hr
 have hcs : z.cells.size = te.size := by
  have := hzrel.1
  rw [pvs_length,Array.length_toList] at this; omega
 have hnew : (w.alloc (.cells (madeCells z.cells (m.val.toNat * te.size)) e)).heap[w.heap.size]? = some (.cells (madeCells z.cells (m.val.toNat * te.size)) e) := heap_alloc_new w _
 have ea := Ext.alloc hs.hr (.cells (madeCells z.cells (m.val.toNat * te.size)) e)
 have hBR : BR (c.grow (some w.heap.size)) (w.alloc (.cells (madeCells z.cells (m.val.toNat * te.size)) e)) (.pure sy (repsP te.zero m.val.toNat)) (some w.heap.size) := by
  refine ⟨_,e,hnew,by rw [repsP_length,size_madeCells,hzl]; exact Nat.le_refl _,fun j u hj => ?_⟩
  obtain ⟨g1,g2⟩ := repsP_get (by omega) _ j u hj
  rw [hzl] at g1 g2
  obtain ⟨x,g3,g4⟩ := hzrel.2 _ (.p u) (by rw [pvs_get,g2]; rfl)
  have g5 : (madeCells z.cells (m.val.toNat * te.size)).getD j Go.undef = x := by
   have hlt : j % te.size < z.cells.size := by rw [hcs]; exact Nat.mod_lt _ hpos
   rw [Array.getD_eq_getD_getElem?]
   simp only [madeCells]
   rw [Array.getElem?_map,Array.getElem?_range]
   simp only [g1,if_true,Option.map_some,Option.getD_some]
   rw [hcs,getElem!_pos z.cells _ hlt]
   rw [Array.getElem?_toList,Array.getElem?_eq_getElem hlt] at g3
   exact Option.some.inj g3
  rw [g5]
  have g6 := g4.ext hs.hr.fresh ea
  cases g6 with | p _ _ h => exact h
 have hrr : (execOp a.eval o).run P w = .ok (.value (.slice (some ⟨w.heap.size,0,none⟩) n.val.toNat m.val.toNat)) (w.alloc (.cells (madeCells z.cells (m.val.toNat * te.size)) e)) := by
  unfold execOp; rw [ho]
  refine runv ?_
  rw [hln,hlm]; exact hr
 refine op_world hs hrr ea (hs.hr.alloc _ _ hBR) (show c.N + 1 = s.n + 1 by rw [hs.nn]) (u := .sl s.n e te.size (.lit 0) n) ?_ (by rw [hs.nn]; exact h)
 rw [← hs.nn]
 have hml : m.val.toNat ≤ maxLen := by unfold maxLen; omega
 refine .sl _ _ _ _ _ w.heap.size 0 n.val.toNat m.val.toNat (m.val.toNat * te.size) (grow_new c _) rfl (by omega) (by omega) hml ?_ (by omega)
 rw [World.shape?,hnew]
 simp only [size_madeCells]
theorem capL {l : Unit → Int} {sz : Nat} {L : I → Prop} (h : Cap l sz L) : ∀ z : Int,l () ≤ z * sz → 0 ≤ z → L (.sym z) := by
 cases h with | mk h => exact h
theorem lop_cap (hT : TOK P T) {cl : Call} {x : LV} {t : Nat} {ti : TI} (ho : o.op = .call cl) (hcl : cl.callee = .builtin .cap) (hargs : eva s cl.args.toList = [x]) (hty : cl.argTypes.toList[0]? = some t) (ht : lget T t = some ti) (hs : St c s a w)
  (h : match ti.kind,x with
      | .slice _,.sl b _ sz o' _ => match hget s.h b with
       | some B => match o' with
        | .lit j => match decide (j = 0) with
         | true => Cap (fun _ => lenB B) sz fun z => K (s.put o.dst (.p (.int .i64 z)))
         | false => False
        | _ => False
       | none => False
      | _,_ => False) : o.wp P a w (Post K c w) Q := by
 obtain ⟨v,hv,hx⟩ := args1 hs hargs
 obtain ⟨d,hu,hkd⟩ := tok_under (hT t ti ht)
 have hty' : cl.argTypes[0]? = some t := by simpa using hty
 split at h
 ·rename_i e b e' sz o' n hk
  rw [hk] at hkd
  cases d <;> try exact hkd.elim
  cases hB : hget s.h b with
  | none => rw [hB] at h; exact h.elim
  | some B =>
   rw [hB] at h
   cases o' with
   | sym j => exact h.elim
   | lit j =>
    dsimp only at h
    cases hj0 : decide (j = 0) with
    | false => rw [hj0] at h; exact h.elim
    | true =>
     rw [hj0] at h
     have hj0 := of_decide_eq_true hj0
     have h := capL h
     obtain ⟨m,hm,hBR⟩ := hs.hr.live b B hB
     have hrun : ∀ {ad len cp},v = .slice ad len cp → (execOp a.eval o).run P w = .ok (.value (.int .i64 cp)) w := by
      intro ad len cp h
      subst h
      refine built_run ho hcl fun cs => ?_
      rw [hv]
      simp [builtin,Builtin.cap_,hty',run_underlying hu,goInt]
     cases hx with
     | goneS _ _ _ _ _ _ _ _ hm' _ => rw [hm] at hm'; cases hm'
     | slv _ _ _ _ _ hm' ho' hn' =>
      rw [hm] at hm'; cases hm'
      exact op_val hs (hrun rfl) (LR.of_int .i64 (.sym 0)) (h 0 (by rw [BR.lenB_none hBR]; simp) (by omega))
     | slz _ _ _ _ _ _ _ _ _ ho' _ _ h0' => exfalso; rw [hj0] at ho'; simp only [I.val] at ho'; omega
     | sl _ _ _ _ _ r j' k' cp tot hm' ho' hn' hk' hc hs' ht' =>
      rw [hm] at hm'; cases hm'
      have hj' : j' = 0 := by rw [hj0] at ho'; simp only [I.val] at ho'; omega
      subst hj'
      have hle := BR.lenB_le hBR hs'
      refine op_val hs (hrun rfl) (LR.of_int .i64 (.sym (cp : Int))) (h cp ?_ (by omega))
      have : lenB B ≤ cp * sz := by omega
      exact_mod_cast this
 ·exact h.elim
theorem zeroCells_rel {z : Value} {zs : List PV} {sz : Nat} (n : Nat) (hr : Rel2 c w (pvs zs) z.cells.toList) (hl : zs.length = sz) (hp : 1 ≤ sz) : Rel2 c w (pvs (repsP zs n)) (Builtin.zeroCells z.cells n).toList := by
 have hcs : z.cells.size = sz := by
  have := hr.1
  rw [pvs_length] at this; simp at this; omega
 refine ⟨by rw [pvs_length,repsP_length,hl]; simp [Builtin.zeroCells,hcs],fun j u hj => ?_⟩
 rw [pvs_get] at hj
 cases e : (repsP zs n)[j]? with
 | none => rw [e] at hj; cases hj
 | some v =>
  rw [e] at hj; cases hj
  obtain ⟨g1,g2⟩ := repsP_get (by omega) _ j v e
  rw [hl] at g1 g2
  obtain ⟨x,g3,g4⟩ := hr.2 _ (.p v) (by rw [pvs_get,g2]; rfl)
  refine ⟨x,?_,g4⟩
  have hlt : j % sz < z.cells.size := by rw [hcs]; exact Nat.mod_lt _ hp
  rw [Array.getElem?_toList]
  simp only [Builtin.zeroCells]
  rw [Array.getElem?_map,Array.getElem?_range]
  rw [hcs]
  simp only [g1,if_true,Option.map_some]
  rw [getElem!_pos z.cells _ hlt]
  rw [Array.getElem?_toList,Array.getElem?_eq_getElem hlt] at g3
  exact g3
theorem lop_clear (hT : TOK P T) {cl : Call} {x : LV} {t e : Nat} {ti te : TI} (ho : o.op = .call cl) (hcl : cl.callee = .builtin .clear) (hargs : eva s cl.args.toList = [x]) (hty : cl.argTypes.toList[0]? = some t) (ht : lget T t = some ti) (hk : ti.kind = .slice e) (hte : lget T e = some te) (hs : St c s a w)
  (h : clearL s te x fun s' => K (s'.put o.dst (.tup []))) : o.wp P a w (Post K c w) Q := by
 obtain ⟨v,hv,hx⟩ := args1 hs hargs
 obtain ⟨d,hu,hkd⟩ := tok_under (hT t ti ht)
 rw [hk] at hkd
 cases d <;> try exact hkd.elim
 rename_i e'
 have hkd : e = e' := hkd
 subst hkd
 have hty' : cl.argTypes[0]? = some t := by simpa using hty
 obtain ⟨⟨i,z,_,hi,hsz,hby,hz,hzc,_⟩,hzs⟩ := hT e te hte
 have hzrel : Rel2 c w (pvs te.zero) z.cells.toList := by rw [hzc]; exact zero_rel c w _ hzs
 have hrun : ∀ {w'},(Builtin.clear_ cl.argTypes o.type #[v]).run P w = .ok (.tuple #[]) w' → (execOp a.eval o).run P w = .ok (.value (.tuple #[])) w' := by
  intro w' h
  refine built_run ho hcl fun cs => ?_
  rw [hv]
  simp [builtin,h]
 have hT0 : ∀ c' w',LR c' w' (.tup []) (.tuple #[]) := fun _ _ => .tup _ _ rfl (fun j u h => by simp at h)
 have hno : ∀ (ad : Option Addr) (cp : Nat),v = .slice ad 0 cp → (execOp a.eval o).run P w = .ok (.value (.tuple #[])) w := by
  intro ad cp h
  subst h
  refine hrun ?_
  cases ad <;> simp [Builtin.clear_,hty',run_underlying hu]
 unfold clearL at h
 split at h
 ·rename_i hzl hpos
  have hpos := Nat.le_of_ble_eq_true hpos
  have hzl := Nat.eq_of_beq_eq_true hzl
  rw [llen_eq,pvs_length] at hzl
  split at h
  ·cases hx with
   | p _ _ h' => cases h' with | nils => exact op_val hs (hno _ _ rfl) (hT0 _ _) h
  ·obtain ⟨h0,h⟩ := need h
   cases hx with
   | p _ _ h' =>
    cases h' with
    | vsl0 _ _ _ _ _ _ _ => exact op_val hs (hno _ _ rfl) (hT0 _ _) h
    | vsl _ _ _ _ k _ _ hk0 _ _ _ _ _ _ _ =>
     obtain rfl : k = 0 := by omega
     exact op_val hs (hno _ _ rfl) (hT0 _ _) h
  ·rename_i b e2 sz o' n
   split at h
   ·rename_i sy l hbq hB
    have hbq := Nat.eq_of_beq_eq_true hbq
    subst hbq
    obtain ⟨⟨h1,h2,h3⟩,h⟩ := need h
    have h := upd h
    obtain ⟨m,hm,hBR⟩ := hs.hr.live b _ hB
    have hzero : n.val.toNat = 0 → BR c w (.pure true (updL l o'.val.toNat (repsP te.zero n.val.toNat))) m := by
     intro e0
     rw [e0,show updL l o'.val.toNat (repsP te.zero 0) = l from rfl]
     cases m <;> exact hBR
    cases hx with
    | goneS _ _ _ _ _ _ _ _ hm' _ => rw [hm] at hm'; cases hm'
    | slz _ _ _ _ _ _ _ _ hm' ho' hn' => exact op_world hs (hno _ _ rfl) (Ext.refl hs.hr) (hs.hr.reset hB hm (hzero (by omega))) hs.nn (hT0 _ _) h
    | slv _ _ _ _ _ hm' ho' hn' => exact op_world hs (hno _ _ rfl) (Ext.refl hs.hr) (hs.hr.reset hB hm (hzero (by omega))) hs.nn (hT0 _ _) h
    | sl _ _ _ _ _ r j k cp tot hm' ho' hn' hk' hc hs' ht' =>
     rw [hm] at hm'; cases hm'
     by_cases hk0 : k = 0
     ·subst hk0
      exact op_world hs (hno _ _ rfl) (Ext.refl hs.hr) (hs.hr.reset hB hm (hzero (by omega))) hs.nn (hT0 _ _) h
     ·have hkn : n.val.toNat = k := by omega
      have hjn : o'.val.toNat = j := by omega
      rw [hkn,hjn] at h
      have hlen : (repsP te.zero k).length = k * te.size := by rw [repsP_length,hzl]
      have hfit : j + (repsP te.zero k).length ≤ l.length := by
       rw [hlen]; rw [ho',hn'] at h3; exact_mod_cast h3
      have hkt : 0 < k * te.size := Nat.mul_pos (by omega) hpos
      have hst : storeB (.pure sy l) (.sym (j : Int)) (pvs (repsP te.zero k)) (fun B => B = .pure true (updL l j (repsP te.zero k))) := by
       unfold storeB
       rw [allOk_pvs,allP_pvs]
       cases sy with
       | false => exact .mk (by show (j : Int) + ((repsP te.zero k).length : Int) ≤ l.length; exact_mod_cast hfit) (.mk fun l' hl => by rw [hl,Int.toNat_natCast])
       | true => exact .mk (by show (j : Int) + ((repsP te.zero k).length : Int) ≤ l.length; exact_mod_cast hfit) (.mk fun l' hl => by rw [hl]; rfl)
      have hrel := zeroCells_rel k hzrel hzl hpos
      obtain ⟨B',cur,ty,g1,hg,g3,_,g5,g6⟩ := storeB_sound hs.hr hB hm hBR (o := .sym (j : Int)) (n := j) rfl hrel (by rw [pvs_length,hlen]; exact hkt) hst
      subst g1
      refine op_world hs (hrun (w' := w.setRow r (over cur.toList j (Builtin.zeroCells z.cells k).toList).toArray) ?_) (Ext.turn hs.hr hm g5) (hs.hr.turn hB hm g5 g6) hs.nn (hT0 _ _) h
      have hst := run_storeCells_at P r j ty (Builtin.zeroCells z.cells k).toList 0 cur w hg (by simpa using g3) (hrel.ones (allOk_pvs _))
      simp only [Nat.add_zero] at hst
      obtain ⟨k',rfl⟩ : ∃ k',k = k' + 1 := ⟨k - 1,by omega⟩
      simp [Builtin.clear_,hty',run_underlying hu,zeroValue,typeInfo,hi,hz,hst,over]
   ·exact h.elim
  ·exact h.elim
 ·exact h.elim
theorem lop_copy (hT : TOK P T) {cl : Call} {x y : LV} {t e : Nat} {ti te : TI} (ho : o.op = .call cl) (hcl : cl.callee = .builtin .copy) (hargs : eva s cl.args.toList = [x,y]) (hty : cl.argTypes.toList[0]? = some t) (ht : lget T t = some ti) (hk : ti.kind = .slice e) (hte : lget T e = some te) (hs : St c s a w)
  (h : copyL s te x y fun z s' => K (s'.put o.dst (.p (.int .i64 z)))) : o.wp P a w (Post K c w) Q := by
 obtain ⟨v,u,hv,hx,hy⟩ := args2 hs hargs
 obtain ⟨d,hu,hkd⟩ := tok_under (hT t ti ht)
 rw [hk] at hkd
 cases d <;> try exact hkd.elim
 rename_i e'
 have hkd : e = e' := hkd
 subst hkd
 have hty' : cl.argTypes[0]? = some t := by simpa using hty
 have hsz : (sizeOf e).run P w = .ok te.size w := tok_size (hT e te hte)
 unfold copyL at h
 split at h
 ·rename_i b o' k
  split at h
  ·rename_i B hB hpos
   have hpos := Nat.le_of_ble_eq_true hpos
   obtain ⟨m,hm,hBR⟩ := hs.hr.live b _ hB
   cases hx with
   | goneA _ _ _ _ hm' _ => rw [hm] at hm'; cases hm'
   | sla _ _ _ r j k' cp hm' ho' hn' hk' hc =>
    have hmb := hm'
    rw [hm] at hm'; cases hm'
    obtain rfl : k' = k + 1 := by have : ((k + 1 : Nat) : Int) = k' := hn'; omega
    have key : ∀ (us : List PV) (ad : Addr) (n' cp' : Nat) (xs : List Value),u = .slice (some ad) n' cp' → k + 1 ≤ n' → (∀ (j : Nat) (v : Value),xs[j]? = some v → w.cell? (ad.add j) = some v) → xs.length = (k + 1) * te.size → Rel2 c w (pvs us) xs →
      storeB B o' (pvs us) (fun B' => K (LS.put { s with h := hset s.h b B' } o.dst (.p (.int .i64 (.lit (.ofNat (k + 1))))))) → o.wp P a w (Post K c w) Q := by
     intro us ad n' cp' xs e1 e2 e3 e4 e5 h
     subst e1
     have hok : allOk (pvs us) = true := allOk_pvs us
     have hlen : (pvs us).length = (k + 1) * te.size := by rw [e5.1,e4]
     have h0 : 0 < (k + 1) * te.size := Nat.mul_pos (by omega) hpos
     obtain ⟨B',cur,ty,g1,hg,g3,_,g5,g6⟩ := storeB_sound hs.hr hB hm hBR ho' e5 (by omega) h
     refine op_world hs (v := .int .i64 ((k + 1 : Nat) : Int)) (w' := w.setRow r (over cur.toList j xs).toArray) ?_ (Ext.turn hs.hr hm g5) (hs.hr.turn hB hm g5 g6) hs.nn (LR.of_int .i64 (.lit (.ofNat (k + 1)))) g1
     refine built_run ho hcl fun cs => ?_
     rw [hv]
     have hld := run_loadCells_list (w := w) (P := P) ad xs e3
     rw [e4] at hld
     have hst := run_storeCells_at P r j ty xs 0 cur w hg (by simpa using g3) (e5.ones hok)
     simp only [Nat.add_zero] at hst
     have hmin : min n' (k + 1) = k + 1 := by omega
     simp [builtin,Builtin.copy_,hty',run_underlying hu,Builtin.lenOf,hmin,hsz,Builtin.firstCells,hld,hst,over,goInt]
    split at h
    ·rename_i n sy l
     obtain ⟨hn,h⟩ := need h
     cases hy with
     | p _ _ hp =>
      cases hp with
      | vsl0 _ _ _ _ _ h0 _ => omega
      | vsl _ _ _ ad n' cp' f hn2 hsp hM hlt hle hcp hcell hrel =>
       obtain ⟨us,h1,h2,h3⟩ := getP_sound (o := .lit 0) (n := 0) rfl _ _ h
       refine key us ad n' cp' ((List.range ((k + 1) * te.size)).map f) rfl (by omega) (fun j v hj => ?_) (by simp) ?_ h3
       ·simp only [List.getElem?_map] at hj
        by_cases hjl : j < (k + 1) * te.size
        ·rw [List.getElem?_range hjl] at hj; cases hj
         have h4 := h2 j hjl
         rw [List.getElem?_eq_getElem (show j < us.length by omega)] at h4
         have := hcell _ _ h4
         simpa using this
        ·rw [List.getElem?_eq_none (by simp; omega)] at hj; cases hj
       ·refine ⟨by rw [pvs_length,h1]; simp,fun j u hu => ?_⟩
        rw [pvs_get] at hu
        cases e : us[j]? with
        | none => rw [e] at hu; cases hu
        | some v =>
         rw [e] at hu; cases hu
         have hj : j < (k + 1) * te.size := by rw [← h1]; exact (List.getElem?_eq_some_iff.1 e).1
         have h4 := h2 j hj
         rw [e] at h4
         have := hrel _ _ h4
         exact ⟨f j,by simp [hj],.p _ _ (by simpa using this)⟩
    ·rename_i b2 e2 sz2 o2 n
     split at h
     ·rename_i sy l hB2
      obtain ⟨hn,h⟩ := need h
      obtain ⟨m2,hm2,hBR2⟩ := hs.hr.live b2 _ hB2
      cases hy with
      | goneS _ _ _ _ _ _ _ _ hm' _ => rw [hm2] at hm'; cases hm'
      | slv _ _ _ _ _ hm' ho2 hn2 => omega
      | slz _ _ _ _ _ _ _ _ _ _ hn2 => omega
      | sl _ _ _ _ _ r2 j2 k2 cp2 tot2 hm' ho2 hn2 hk2 hc2 hs2 ht2 =>
       rw [hm'] at hm2; cases hm2
       obtain ⟨cur2,ty2,hg2,hle2,hrel2⟩ := hBR2
       obtain ⟨us,h1,h2,h3⟩ := getP_sound (n := j2) ho2 _ _ h
       have hin : ∀ i,i < (k + 1) * te.size → j2 + i < cur2.size := by
        intro i hi
        have h4 := h2 i hi
        rw [List.getElem?_eq_getElem (show i < us.length by omega)] at h4
        have := (List.getElem?_eq_some_iff.1 h4).1
        omega
       refine key us ⟨r2,j2,none⟩ k2 cp2 ((List.range ((k + 1) * te.size)).map fun i => cur2.getD (j2 + i) Go.undef) rfl (by omega) (fun i v hi => ?_) (by simp) ?_ h3
       ·simp only [List.getElem?_map] at hi
        by_cases hil : i < (k + 1) * te.size
        ·rw [List.getElem?_range hil] at hi; cases hi
         rw [add_lit]
         have hci : cur2[j2 + i]? = some (cur2[j2 + i]'(hin i hil)) := Array.getElem?_eq_getElem (hin i hil)
         simp only [World.cell?,hg2,Array.getD_eq_getD_getElem?,hci]
         simp
        ·rw [List.getElem?_eq_none (by simp; omega)] at hi; cases hi
       ·refine ⟨by rw [pvs_length,h1]; simp,fun i u hu => ?_⟩
        rw [pvs_get] at hu
        cases e : us[i]? with
        | none => rw [e] at hu; cases hu
        | some v =>
         rw [e] at hu; cases hu
         have hi : i < (k + 1) * te.size := by rw [← h1]; exact (List.getElem?_eq_some_iff.1 e).1
         have h4 := h2 i hi
         rw [e] at h4
         exact ⟨cur2.getD (j2 + i) Go.undef,by simp [hi],.p _ _ (hrel2 _ _ (by simpa using h4))⟩
     ·exact h.elim
    ·exact h.elim
  ·exact h.elim
 ·exact h.elim
end
end Go.LX
namespace Go.LX
open Go
set_option maxHeartbeats 32000000
section
variable {P : Program} {T : TT} {o : Oper} {s : LS} {K : LS → Prop} {c : Ctx} {a : Act} {w w' : World} {Q : Exit → Act → World → Prop}
theorem lop_sound (hT : TOK P T) (hs : St c s a w) (h : lop (fun _ => P) (fun _ => T) o s K) : o.wp P a w (Post K c w) Q := by
 unfold lop at h
 split at h
 ·rename_i x ho; exact lop_move (.inl ho) hs h
 ·rename_i x ho; exact lop_move (.inr ho) hs h
 ·rename_i c0 x y ho
  split at h
  ·rename_i b hb
   refine lop_pick ho hs hb ?_
   cases b <;> exact h
  ·exact h.elim
 ·rename_i op t x y t2 ho; exact lop_bin hT ho hs h
 ·rename_i op t x ho
  split at h
  ·split at h
   ·rename_i b hb
    refine lop_not ho hs hb ?_
    cases b <;> exact h
   ·exact h.elim
  ·split at h
   ·rename_i k e hb; exact lop_neg ho hs hb h
   ·exact h.elim
  ·exact h.elim
 ·rename_i x ho; exact lop_nilCheck ho hs h
 ·rename_i t ho
  split at h
  ·rename_i ti ht
   split at h
   ·split at h
    ·rename_i l hz; exact lop_allocB hT ht hz ho hs h
    ·exact h.elim
   ·exact lop_alloc hT ht ho hs h
  ·exact h.elim
 ·rename_i t x ho
  split at h
  ·rename_i hok; exact lop_box ho hs hok h
  ·exact h.elim
 ·rename_i t parts ho
  split at h
  ·rename_i ti ht
   split at h
   ·rename_i hk
    split at h
    ·rename_i cs hf; exact lop_build hT ht hk ho hs hf h
    ·exact h.elim
   ·exact h.elim
  ·exact h.elim
 ·rename_i t len parts ho
  split at h
  ·rename_i ti ht
   split at h
   ·rename_i e hk
    split at h
    ·rename_i te hte
     split at h
     ·rename_i h1 h2 h3
      split at h
      ·rename_i cs hf
       have h2 := Nat.eq_of_beq_eq_true h2
       rw [llen_eq,pvs_length] at h2
       exact lop_buildSlice hT ht hk hte (Nat.le_of_ble_eq_true h1) ho hs hf h2 (Nat.le_of_ble_eq_true h3) h
      ·exact h.elim
     ·exact h.elim
    ·exact h.elim
   ·exact h.elim
  ·exact h.elim
 ·rename_i t x ho
  split at h
  ·rename_i ti ht; exact lop_load hT ht ho hs h
  ·exact h.elim
 ·rename_i t x y ho
  split at h
  ·rename_i ti ht; exact lop_store hT ht ho hs h
  ·exact h.elim
 ·rename_i t x f ho
  split at h
  ·rename_i ti ht
   split at h
   ·rename_i fs hk
    split at h
    ·rename_i off ft hf
     split at h
     ·rename_i tf htf
      split at h
      ·rename_i h1; exact lop_fieldAddr hT ht hk hf htf (Nat.le_of_ble_eq_true h1) ho hs h
      ·exact h.elim
     ·exact h.elim
    ·exact h.elim
   ·exact h.elim
  ·exact h.elim
 ·rename_i t x f ho
  split at h
  ·rename_i ti ht
   split at h
   ·rename_i fs hk
    split at h
    ·rename_i off ft hf
     split at h
     ·rename_i tf htf
      split at h
      ·rename_i l hl
       split at h
       ·rename_i vs hg; exact lop_field hT ht hk hf htf ho hs hl hg h
       ·exact h.elim
      ·exact h.elim
     ·exact h.elim
    ·exact h.elim
   ·exact h.elim
  ·exact h.elim
 ·rename_i t x y ho
  split at h
  ·rename_i ti ht
   split at h
   ·rename_i k i hi
    split at h
    ·rename_i e hk
     split at h
     ·rename_i te hte; exact lop_indexAddr hT ht hk hte hi ho hs h
     ·exact h.elim
    ·rename_i n e hk
     split at h
     ·rename_i te hte
      split at h
      ·rename_i b o' hx
       split at h
       ·rename_i B hB; exact lop_indexArr hT ht hk hte hi ho hs hx ⟨B,hB⟩ h
       ·exact h.elim
      ·exact h.elim
     ·exact h.elim
    ·exact h.elim
   ·exact h.elim
  ·exact h.elim
 ·rename_i t x y ho
  split at h
  ·rename_i ti ht
   split at h
   ·rename_i hk
    split at h
    ·rename_i z k i hx hi; exact lop_index hT ht hk hx hi ho hs h
    ·exact h.elim
   ·exact h.elim
  ·exact h.elim
 ·rename_i t x lo hi ho
  split at h
  ·rename_i ti ht
   split at h
   ·rename_i hk
    split at h
    ·rename_i z hx; exact lop_sliceStr hT ht hk hx ho hs h
    ·exact h.elim
   ·rename_i e hk
    split at h
    ·rename_i te hte; exact lop_sliceSl hT ht hk hte ho hs h
    ·exact h.elim
   ·rename_i ar hk; exact lop_arr hT ht hk ho hs h
   ·exact lop_arr2 hT ho hs h
   ·exact h.elim
  ·exact h.elim
 ·rename_i src dst x ho
  split at h
  ·rename_i ts ti hts ht
   split at h
   ·rename_i k hk
    split at h
    ·rename_i k' e hev; exact lop_convInt hT hts ht ho hs hk h hev
    ·exact h.elim
   ·rename_i hk
    split at h
    ·rename_i k' e hev; exact lop_convRune hT hts ht ho hs hk hev h
    ·rename_i z hev; exact lop_convStr hT hts ht ho hs hk hev h
    ·exact lop_convBytes hT hts ht ho hs hk h
   ·exact h.elim
  ·exact h.elim
 ·rename_i t len cap ho
  split at h
  ·rename_i ti ht
   split at h
   ·rename_i e hk
    split at h
    ·rename_i te hte
     split at h
     ·rename_i h1 h2
      split at h
      ·rename_i kn n km m hn hm; exact lop_makeSlice hT ht hk hte h1 h2 hn hm ho hs h
      ·exact h.elim
     ·exact h.elim
    ·exact h.elim
   ·exact h.elim
  ·exact h.elim
 ·rename_i t r ho
  split at h
  ·rename_i k e hk; exact lop_makeMap hT hk ho hs h
  ·exact h.elim
 ·rename_i t x i ok ho
  split at h
  ·rename_i k e hk; exact lop_lookup hT hk ho hs h
  ·rename_i k e hk; exact lop_lookupV hT hk ho hs h
  ·exact h.elim
 ·rename_i t x i v ho
  split at h
  ·rename_i k e hk; exact lop_mapUpdate hT hk ho hs h
  ·exact h.elim
 ·rename_i t x ho
  split at h
  ·rename_i ti ht
   split at h
   ·exact h.elim
   ·rename_i hk; exact lop_makeInterface hT ht hk ho hs h
  ·exact h.elim
 ·rename_i x xt t ok ho
  split at h
  ·split at h
   ·rename_i ti ht
    split at h
    ·exact h.elim
    ·rename_i hk; exact lop_typeAssert hT ht hk ho hs h
   ·exact h.elim
  ·exact h.elim
 ·rename_i x i ho
  split at h
  ·rename_i l hl
   split at h
   ·rename_i v hv; exact lop_extract ho hs hl hv h
   ·exact h.elim
  ·exact h.elim
 ·rename_i t x ho
  split at h
  ·rename_i ti ht
   split at h
   ·rename_i z hk hx; exact lop_range hT ht hk hx ho hs h
   ·exact h.elim
  ·exact h.elim
 ·rename_i x isS ho
  split at h
  ·split at h
   ·rename_i b m hx
    split at h
    ·rename_i z pos hB
     split at h
     ·rename_i h0; exact lop_next ho hs (of_decide_eq_true h0) hx hB h
     ·exact h.elim
    ·exact h.elim
   ·exact h.elim
  ·exact h.elim
 ·rename_i fn first cap ho
  split at h
  ·rename_i f hf; exact lop_makeFunc ho hf hs h
  ·exact h.elim
 ·rename_i cl ho
  split at h
  ·rename_i f hcl; exact lop_call ho hcl hs h
  ·rename_i b hcl
   split at h
   ·rename_i x hargs
    split at h
    ·rename_i t hty
     split at h
     ·rename_i ti ht; exact lop_len hT ho hcl hargs hty ht hs h
     ·exact h.elim
    ·exact h.elim
   ·rename_i x y hargs
    split at h
    ·rename_i t u hty
     split at h
     ·rename_i ti ht htu
      have htu := Nat.eq_of_beq_eq_true htu
      subst htu
      split at h
      ·rename_i e hk
       split at h
       ·rename_i te hte
        exact lop_append hT ho hcl hargs (by cases h0 : cl.argTypes; rw [h0] at hty; simp at hty; rw [hty]) ht hk hte hs h
       ·exact h.elim
      ·exact h.elim
     ·rename_i ti ht htu
      split at h
      ·rename_i e hk hk'
       split at h
       ·rename_i te hte
        exact lop_appendS hT ho hcl hargs (by cases h0 : cl.argTypes; rw [h0] at hty; simp at hty; rw [hty]) ht hk hk' hte hs h
       ·exact h.elim
      ·exact h.elim
     ·exact h.elim
    ·exact h.elim
   ·rename_i x hargs
    split at h
    ·rename_i t hty
     split at h
     ·rename_i ti ht; exact lop_cap hT ho hcl hargs hty ht hs h
     ·exact h.elim
    ·exact h.elim
   ·rename_i k x k' y hargs; exact lop_min ho hcl hargs hs h
   ·rename_i k x k' y hargs; exact lop_max ho hcl hargs hs h
   ·rename_i x y hargs
    split at h
    ·rename_i t hty
     split at h
     ·rename_i ti ht
      split at h
      ·rename_i e hk
       split at h
       ·rename_i te hte; exact lop_copy hT ho hcl hargs hty ht hk hte hs h
       ·exact h.elim
      ·exact h.elim
     ·exact h.elim
    ·exact h.elim
   ·rename_i x hargs
    split at h
    ·rename_i t hty
     split at h
     ·rename_i ti ht
      split at h
      ·rename_i e hk
       split at h
       ·rename_i te hte; exact lop_clear hT ho hcl hargs hty ht hk hte hs h
       ·exact h.elim
      ·exact h.elim
     ·exact h.elim
    ·exact h.elim
   ·exact h.elim
  ·rename_i f name hcl; exact lop_invoke ho hcl hs h
 ·exact h.elim
end
end Go.LX
namespace Go.LX
open Go
set_option maxHeartbeats 32000000
section
variable {P : Program} {T : TT} {c : Ctx} {a : Act} {w w' : World}
theorem onth_eq : ∀ (l : List Oper) (i : Nat),onth l i = l[i]?
 | [],i => by cases i <;> rfl
 | x :: l,0 => rfl
 | x :: l,i + 1 => by rw [onth,onth_eq l i]; rfl
theorem wanted_bool {ops : Array Oper} {o : Oper} {j : Nat} {want b : Bool} {t : Array Value} (hg : o.guard = some (j,want)) (h : ((ops[j]?).bind (·.dst)).bind (t[·]?) = some (.bool b)) :
  Region.wanted o (yielded ops t) = (b == want) := by
 unfold Region.wanted yielded
 rw [hg]
 simp [h]
theorem wanted_no {ops : Array Oper} {o : Oper} {j : Nat} {want : Bool} {t : Array Value} (hg : o.guard = some (j,want)) (h : ∀ b,((ops[j]?).bind (·.dst)).bind (t[·]?) ≠ some (.bool b)) :
  Region.wanted o (yielded ops t) = false := by
 unfold Region.wanted yielded
 rw [hg]
 dsimp only
 split
 ·rename_i b hb; exact absurd hb (h b)
 ·rfl
theorem yes_sound {s : LS} {ops : Array Oper} {o : Oper} {b : Bool} (hs : St c s a w) (h : yes s ops.toList o.guard = some b) : Region.wanted o (yielded ops a.tmps) = b := by
 cases hg : o.guard with
 | none => rw [hg] at h; simp [yes] at h; subst h; simp [Region.wanted,hg]
 | some p =>
  obtain ⟨j,want⟩ := p
  rw [hg] at h
  simp only [yes,onth_eq] at h
  have hj : ops.toList[j]? = ops[j]? := by simp
  rw [hj] at h
  cases e : ops[j]? with
  | none => rw [e] at h; simp at h; subst h; exact wanted_no hg (by intro b; rw [e]; simp)
  | some q =>
   rw [e] at h
   dsimp only at h
   cases e2 : q.dst with
   | none => rw [e2] at h; simp at h; subst h; exact wanted_no hg (by intro b; rw [e]; simp [e2])
   | some d =>
    rw [e2] at h
    dsimp only at h
    have hv := hs.slot d
    have hin : ∀ {u},tget s.t d = u → u ≠ .undef → ((ops[j]?).bind (·.dst)).bind (a.tmps[·]?) = some (a.tmps.getD d undef) := by
     intro u hu hne
     rw [tget_eq,List.getD_eq_getElem?_getD] at hu
     have : d < s.t.length := by
      rcases Nat.lt_or_ge d s.t.length with h1 | h1
      ·exact h1
      ·rw [List.getElem?_eq_none h1] at hu; exact absurd hu.symm hne
     rw [hs.tl] at this
     rw [e,Array.getD_eq_getD_getElem?]
     simp [e2,this]
    split at h
    ·rename_i cb hcb
     have h1 := hin hcb (by intro h; cases h)
     rw [hcb] at hv
     rw [hv.inv_bool] at h1
     rw [wanted_bool hg h1]
     cases want <;> cases cb <;> simp at h <;> subst h <;> rfl
    ·rename_i hcb
     have h1 := hin hcb (by intro h; cases h)
     rw [hcb] at hv
     have hu : a.tmps.getD d undef = undef := by
      generalize a.tmps.getD d undef = v at hv
      cases hv; rfl
     rw [hu] at h1
     simp at h; subst h
     exact wanted_no hg (by intro b; rw [h1]; intro h; cases h)
    ·cases h
theorem lops_sound (hT : TOK P T) {ops : Array Oper} {K : LS → Prop} {c0 : Ctx} {w0 : World} {Q : Exit → Act → World → Prop} (hQ : ∀ a' w',Post K c0 w0 a' w' → Q .normal a' w') : ∀ (m k : Nat) {s : LS} {c : Ctx} {a : Act} {w : World},k + m = ops.size → Ext c0 w0 c w → St c s a w → lops (fun _ => P) (fun _ => T) ops.toList (ops.toList.drop k) s K →
  wpOps P ops Q (List.range' k m) a w
 | 0,k,s,c,a,w,hk,he,hs,h => by
  have : ops.toList.drop k = [] := List.drop_eq_nil_of_le (by simp; omega)
  rw [this] at h
  exact hQ _ _ ⟨c,s,h,hs,he⟩
 | m + 1,k,s,c,a,w,hk,he,hs,h => by
  have hlt : k < ops.toList.length := by simp; omega
  rw [List.drop_eq_getElem_cons hlt] at h
  rw [List.range'_succ,wpOps]
  have ho : ops[k]? = some ops.toList[k] := by simp at hlt; simp [hlt]
  rw [ho]
  dsimp only
  rw [lops] at h
  split at h
  ·rename_i cb hy
   have hw := yes_sound hs hy
   cases cb with
   | true =>
    rw [if_pos hw]
    left
    have h1 := lop_sound (Q := Q) hT hs h
    refine Oper.wp_mono (fun a' w' hp => ?_) h1
    obtain ⟨c',s',hK,hs',he'⟩ := hp
    exact lops_sound hT hQ m (k + 1) (by omega) (he.trans he') hs' hK
   | false =>
    rw [if_neg (by rw [hw]; simp)]
    exact lops_sound hT hQ m (k + 1) (by omega) he (hs.put .nul _) h
  ·exact h.elim
def PostE (K : Exit → LS → Prop) (c : Ctx) (w : World) (e : Exit) (a' : Act) (w' : World) : Prop := ∃ c' s',K e s' ∧ St c' s' a' w' ∧ Ext c w c' w'
theorem lcode_sound (hT : TOK P T) {c0 : Ctx} {w0 : World} (n0 : Nat) (hn0 : c0.N = n0) : ∀ (cd : Code) {s : LS} {K : Exit → LS → Prop} {c : Ctx} {a : Act} {w : World},Ext c0 w0 c w → St c s a w → lcode (fun _ => P) (fun _ => T) n0 cd s K → cd.wp P (PostE K c0 w0) a w
 | .skip,s,K,c,a,w,he,hs,h => wp_skip ⟨c,s,h,hs,he⟩
 | .label _,s,K,c,a,w,he,hs,h => wp_label ⟨c,s,h,hs,he⟩
 | .exit _,s,K,c,a,w,he,hs,h => wp_exit ⟨c,s,h,hs,he⟩
 | .ret,s,K,c,a,w,he,hs,h => wp_ret ⟨c,s,h,hs,he⟩
 | .region _ ops d,s,K,c,a,w,he,hs,h => by
  cases d with
  | false =>
   refine wp_region ?_
   rw [List.range_eq_range']
   refine lops_sound hT (c0 := c0) (w0 := w0) (K := fun s' => K .normal s') (fun a' w' hp => ?_) ops.size 0 (by omega) he hs (by rw [List.drop_zero]; exact h)
   obtain ⟨c',s',hK,hs',he'⟩ := hp
   exact ⟨c',s',hK,hs',he'⟩
  | true =>
   refine wp_region_draw fun t => ?_
   obtain ⟨e1,r1⟩ := hs.hr.same (w' := { w with drawn := w.drawn + 1 }) rfl rfl rfl rfl
   have hs1 : St c s a { w with drawn := w.drawn + 1 } := ⟨hs.tl,fun i u hu => (hs.tr i u hu).ext hs.hr.fresh e1,hs.df,r1,hs.nn⟩
   cases h with
   | mk h =>
    refine h c a _ t _ hs1 (fun a' w' hp => ?_)
    obtain ⟨c',s',hK,hs',he'⟩ := hp
    exact ⟨c',s',hK,hs',he.trans (e1.trans he')⟩
 | .seq x y,s,K,c,a,w,he,hs,h => by
  refine wp_seq (wp_mono (lcode_sound hT n0 hn0 x he hs h) fun e a' w' hp => ?_)
  obtain ⟨c',s',hK,hs',he'⟩ := hp
  cases e with
  | normal => exact lcode_sound hT n0 hn0 y he' hs' hK
  | exit j => exact ⟨c',s',hK,hs',he'⟩
  | ret => exact ⟨c',s',hK,hs',he'⟩
  | goto l => exact hK.elim
  | panic ch => exact hK.elim
  | outgrown => exact hK.elim
 | .cond co x y,s,K,c,a,w,he,hs,h => by
  rw [lcode] at h
  split at h
  ·rename_i b hb
   have hv : a.eval co = .bool b := LR.inv_bool (hb ▸ hs.ev co)
   cases b with
   | true => exact wp_cond_true hv (lcode_sound hT n0 hn0 x he hs h)
   | false => exact wp_cond_false hv (lcode_sound hT n0 hn0 y he hs h)
  ·exact h.elim
 | .block id x,s,K,c,a,w,he,hs,h => by
  refine wp_block (wp_mono (lcode_sound hT n0 hn0 x he hs h) fun e a' w' hp => ?_)
  obtain ⟨c',s',hK,hs',he'⟩ := hp
  cases e with
  | normal => exact ⟨c',s',hK,hs',he'⟩
  | exit j =>
   show if j = id then _ else _
   dsimp only at hK
   by_cases hj : j = id
   ·rw [if_pos hj]
    subst hj
    rw [Nat.beq_refl] at hK
    exact ⟨c',s',hK,hs',he'⟩
   ·rw [if_neg hj]
    rw [nbeq hj] at hK
    exact ⟨c',s',hK,hs',he'⟩
  | ret => exact ⟨c',s',hK,hs',he'⟩
  | goto l => exact hK.elim
  | panic ch => exact hK.elim
  | outgrown => exact hK.elim
 | .loop x,s,K,c,a,w,he,hs,h => by
  cases h with
  | mk V k0 s0 h0 hv hr =>
   obtain ⟨h0⟩ := h0
   obtain ⟨c',he',hs'⟩ := h0 c0 w0 c a w hn0 he hs
   refine wp_loop_ghost (fun n a w => ∃ s c,V n s ∧ Ext c0 w0 c w ∧ St c s a w) k0 ⟨s0,c',hv,he',hs'⟩ fun n a w hI => ?_
   obtain ⟨s1,c1,hv1,he1,hs1⟩ := hI
   refine wp_mono (lcode_sound hT n0 hn0 x he1 hs1 (hr n s1 hv1)) fun e a' w' hp => ?_
   obtain ⟨c2,s2,hK,hs2,he2⟩ := hp
   cases e with
   | normal =>
    obtain ⟨k3,s3,hm3,hre,hv3⟩ := hK
    obtain ⟨hre⟩ := hre
    obtain ⟨c3,he3,hs3⟩ := hre c0 w0 c2 a' w' hn0 he2 hs2
    exact ⟨k3,hm3,s3,c3,hv3,he3,hs3⟩
   | exit j => exact ⟨c2,s2,hK,hs2,he2⟩
   | ret => exact ⟨c2,s2,hK,hs2,he2⟩
   | goto l => exact ⟨c2,s2,hK,hs2,he2⟩
   | panic ch => exact ⟨c2,s2,hK,hs2,he2⟩
   | outgrown => exact ⟨c2,s2,hK,hs2,he2⟩
  | rounds m h =>
   refine wp_loop_rounds m ?_
   induction m generalizing s c a w with
   | zero => exact h.elim
   | succ m ih =>
    refine wp_mono (lcode_sound hT n0 hn0 x he hs h) fun e a' w' hp => ?_
    obtain ⟨c',s',hK,hs',he'⟩ := hp
    cases e with
    | normal => exact ih s' c' a' w' he' hs' hK
    | exit j => exact ⟨c',s',hK,hs',he'⟩
    | ret => exact ⟨c',s',hK,hs',he'⟩
    | goto l => exact ⟨c',s',hK,hs',he'⟩
    | panic ch => exact ⟨c',s',hK,hs',he'⟩
    | outgrown => exact ⟨c',s',hK,hs',he'⟩
 | .rangeFunc _ _ _ _,s,K,c,a,w,he,hs,h => h.elim
 | .scope _,s,K,c,a,w,he,hs,h => h.elim
 | .goto _,s,K,c,a,w,he,hs,h => h.elim
 | .refuse _,s,K,c,a,w,he,hs,h => h.elim
theorem undefs_length : ∀ n,(undefs n).length = n
 | 0 => rfl
 | n + 1 => by simp [undefs,undefs_length n]
theorem undefs_get : ∀ (n i : Nat) (u : LV),(undefs n)[i]? = some u → u = .undef
 | 0,i,u,h => by simp [undefs] at h
 | n + 1,0,u,h => by simp [undefs] at h; exact h.symm
 | n + 1,i + 1,u,h => by simp [undefs] at h; exact undefs_get n i u h
def resF (t : Array Value) : ResultVar → Sem Value
 | .tmp x => pure (t.getD x undef)
 | .cell x ty => do loadVar ty (← asAddr (t.getD x undef))
theorem results_eq (fn : Func) (t : Array Value) : results fn t = (do let vs ← fn.results.mapM (resF t); pure (if h : vs.size = 1 then vs[0] else .tuple vs)) := by
 unfold results
 congr 2
theorem lres_sound (hT : TOK P T) {s : LS} (hs : St c s a w) : ∀ (l : List ResultVar) {L : List LV → Prop},lres (fun _ => T) s l L → ∃ us vs,(l.mapM (resF a.tmps)).run P w = .ok vs w ∧ Rel2 c w us vs ∧ L us
 | [],L,h => ⟨[],[],by simp,Rel2.nil,h⟩
 | .tmp t :: l,L,h => by
  obtain ⟨us,vs,h1,h2,h3⟩ := lres_sound hT hs l h
  exact ⟨_,a.tmps.getD t undef :: vs,by simp [List.mapM_cons,resF,h1],Rel2.cons (hs.slot t) h2,h3⟩
 | .cell x t :: l,L,h => by
  have hx := hs.slot x
  rw [lres] at h
  split at h
  ·rename_i b o' hev
   rw [hev] at hx
   split at h
   ·rename_i B ti hB ht
    obtain ⟨r,k,hm,hk,hv⟩ := live_ptr hs hx hB
    obtain ⟨m,hm',hBR⟩ := hs.hr.live b B hB
    rw [hm] at hm'; cases hm'
    obtain ⟨u,y,h1,h2,h3⟩ := loadB_sound (hT t ti ht) hBR hk h
    obtain ⟨us,vs,h4,h5,h6⟩ := lres_sound hT hs l h3
    exact ⟨_,y :: vs,by simp [List.mapM_cons,resF,hv,asAddr,h1,h4],Rel2.cons h2 h5,h6⟩
   ·exact h.elim
  ·exact h.elim
theorem callF_of_body (hT : TOK P T) {f : Nat} {fn : Func} {cd : Code} {args : List LV} {h : LH} {n : Nat} {K : LV → LH → Nat → Prop} (hf : P.funcs[f]? = some fn) (hname : (fn.name == "runtime.NumGoroutine") = false) (hb : fn.body = some cd)
  {rs : List ResultVar} {nt : Nat} (hrs : fn.results.toList = rs) (hnt : fn.ntmps = nt) (hbody : lbody (fun _ => P) (fun _ => T) cd rs nt args h n K) : CallF (fun _ => P) f args h n K := by
 refine .mk ⟨fn,cd,hf,hname,hb⟩ fun c w xs hr hN hl hrel => ?_
 refine calls_of_wp hf hb ?_
 subst hrs hnt
 unfold lbody at hbody
 have hs : St c ⟨args ++ undefs (fn.ntmps - llen args),h,n⟩ { tmps := xs ++ Array.replicate (fn.ntmps - xs.size) undef,defers := [] } w := by
  refine ⟨by simp [undefs_length,llen_eq,hl],fun i u hu => ?_,rfl,hr,hN⟩
  dsimp only at hu ⊢
  by_cases hi : i < args.length
  ·rw [List.getElem?_append_left hi] at hu
   have := hrel i u hu
   rw [Array.getD_eq_getD_getElem?] at this ⊢
   rw [Array.getElem?_append_left (by omega)]
   exact this
  ·rw [List.getElem?_append_right (by omega)] at hu
   rw [undefs_get _ _ _ hu]; exact .undef _
 refine wp_mono (lcode_sound hT n hN cd (Ext.refl hr) hs hbody) fun e a' w' hp => ?_
 obtain ⟨c',s',hK,hs',he'⟩ := hp
 have fin : lres (fun _ => T) s' fn.results.toList (fun rs => RetF n rs s'.h s'.n K) → a'.defers = [] ∧ ∃ v,(results fn a'.tmps).run P w' = .ok v w' ∧
   (fun (e : Ending) w' => ∃ (c' : Ctx) (r : LV) (v : Value) (h' : LH) (n' : Nat),e = .returned v ∧ K r h' n' ∧ HR c' w' h' ∧ c'.N = n' ∧ LR c' w' r v ∧ Ext c w c' w') (.returned v) w' := by
  intro hres
  refine ⟨hs'.df,?_⟩
  obtain ⟨us,vs,h1,h2,h3⟩ := lres_sound hT hs' _ hres
  obtain ⟨rs',h',n',⟨hre⟩,hlr,hk⟩ := h3
  have hs2 : St c' ⟨us,s'.h,s'.n⟩ { tmps := vs.toArray,defers := [] } w' := ⟨by simpa using h2.1,fun i u hu => (Rel2.getD (x := vs.toArray) (by simpa using h2)).2 i u hu,rfl,hs'.hr,hs'.nn⟩
  obtain ⟨c2,he2,hs3⟩ := hre c w c' _ w' hN he' hs2
  refine ⟨if h : vs.toArray.size = 1 then vs.toArray[0] else .tuple vs.toArray,?_,c2,one rs',_,h',n',rfl,hk,hs3.hr,hs3.nn,?_,he2⟩
  ·rw [results_eq,Sem.run_bind,Array.mapM_eq_mapM_toList,Sem.run_map,h1]
   rfl
  ·have hr3 : Rel2 c2 w' rs' vs := by
    have := Rel2.ofD hs3.tl hs3.tr
    simpa using this
   cases rs' with
   | nil =>
    have : vs = [] := List.eq_nil_of_length_eq_zero hr3.1.symm
    subst this
    exact .tup [] #[] rfl (fun j u hu => by simp at hu)
   | cons u rs =>
    obtain ⟨y,ys,rfl,h5,h6⟩ := hr3.head
    cases rs with
    | nil =>
     have : ys = [] := List.eq_nil_of_length_eq_zero h6.1.symm
     subst this
     simpa [one] using h5
    | cons u2 rs =>
     have hne : ¬ (y :: ys).toArray.size = 1 := by
      have := h6.1
      simp at this ⊢
      intro h; rw [h] at this; simp at this
     rw [dif_neg hne]
     exact .tup _ _ (by simpa using hr3.1) (Rel2.getD (x := (y :: ys).toArray) (by simpa using hr3)).2
 cases e with
 | normal => exact fin hK
 | ret => exact fin hK
 | exit j => exact hK.elim
 | goto l => exact hK.elim
 | panic ch => exact hK.elim
 | outgrown => exact hK.elim
end
end Go.LX
