/-
  Each operation does in the model what the calculus says of it: len, min, max, append; and all of them in one sentence.
-/
import Derived.Test.YtocliihimbggjaaLxOps5
import Derived.Laws.OwnMore
namespace Go.LX
open Go

section
variable {P : Program} {T : TT} {o : Oper} {s : LS} {K : LS → Prop} {c : Ctx} {a : Act} {w w' : World} {Q : Exit → Act → World → Prop}

theorem built_run {cl : Call} {b : Builtin} (ho : o.op = .call cl) (hcl : cl.callee = .builtin b) {v : Value} {w' : World} (h : ∀ cs, (builtin b cl.argTypes o.type cs (cl.args.map a.eval)).run P w = .ok (.value v) w') :
    (execOp a.eval o).run P w = .ok (.value v) w' := by
  unfold execOp; rw [ho]
  simp [resolve, hcl, invoke]
  exact h _
theorem args1 {cl : Call} {x : LV} (hs : St c s a w) (h : eva s cl.args.toList = [x]) : ∃ v, cl.args.map a.eval = #[v] ∧ LR c w x v := by
  have hrel := eva_rel hs cl.args.toList
  rw [h] at hrel
  obtain ⟨v, ys, h1, h2, h3⟩ := hrel.head
  have : ys = [] := by cases ys with | nil => rfl | cons y ys => have := h3.1; simp at this
  subst this
  exact ⟨v, by apply Array.ext'; simpa using h1, h2⟩
theorem args2 {cl : Call} {x y : LV} (hs : St c s a w) (h : eva s cl.args.toList = [x, y]) : ∃ v u, cl.args.map a.eval = #[v, u] ∧ LR c w x v ∧ LR c w y u := by
  have hrel := eva_rel hs cl.args.toList
  rw [h] at hrel
  obtain ⟨v, ys, h1, h2, h3⟩ := hrel.head
  obtain ⟨u, zs, h4, h5, h6⟩ := h3.head
  have : zs = [] := by cases zs with | nil => rfl | cons y ys => have := h6.1; simp at this
  subst this h4
  exact ⟨v, u, by apply Array.ext'; simpa using h1, h2, h5⟩

theorem lop_len (hT : TOK P T) {cl : Call} {x : LV} {t : Nat} {ti : TI} (ho : o.op = .call cl) (hcl : cl.callee = .builtin .len) (hargs : eva s cl.args.toList = [x]) (hty : cl.argTypes.toList[0]? = some t) (ht : lget T t = some ti) (hs : St c s a w)
    (h : match ti.kind, x with
        | .slice _, .p (.vsl n _ _) => K (s.put o.dst (.p (.int .i64 n)))
        | .slice _, .p .nils => K (s.put o.dst (.p (.int .i64 (.lit 0))))
        | .str, .p (.str z) => Sum (fun _ => (z ()).size) fun y => K (s.put o.dst (.p (.int .i64 y)))
        | .slice _, .sl b _ _ _ n => match hget s.h b with
          | some _ => K (s.put o.dst (.p (.int .i64 n)))
          | none => False
        | _, _ => False) : o.wp P a w (Post K c w) Q := by
  obtain ⟨v, hv, hx⟩ := args1 hs hargs
  obtain ⟨d, hu, hkd⟩ := tok_under (hT t ti ht)
  have hty' : cl.argTypes[0]? = some t := by simpa using hty
  have hrun : ∀ {n : Int}, (Builtin.len_ cl.argTypes o.type #[v]).run P w = .ok (goInt n) w → (execOp a.eval o).run P w = .ok (.value (.int .i64 n)) w := by
    intro n h
    refine built_run ho hcl fun cs => ?_
    rw [hv]
    simp [builtin, h, goInt]
  split at h
  · rename_i e n sy l hk
    rw [hk] at hkd
    cases d <;> try exact hkd.elim
    cases hx with
    | p _ _ hp =>
      cases hp with
      | vsl0 _ _ _ ad cp h0 _ => exact op_val hs (hrun (n := n.val) (by simp [Builtin.len_, hty', run_underlying hu, h0])) (LR.of_int _ _) h
      | vsl _ _ _ ad n' cp g hn hsp hM hlt hle hcp hcell hrel => exact op_val hs (hrun (n := n.val) (by simp [Builtin.len_, hty', run_underlying hu, hn])) (LR.of_int _ _) h
  · rename_i e hk
    rw [hk] at hkd
    cases d <;> try exact hkd.elim
    cases hx with
    | p _ _ hp =>
      cases hp with
      | nils => exact op_val hs (hrun (n := 0) (by simp [Builtin.len_, hty', run_underlying hu])) (LR.of_int .i64 (.lit 0)) h
  · rename_i z hk
    rw [hk] at hkd
    cases d <;> try exact hkd.elim
    cases hx.inv_str
    obtain ⟨y, hy, hK⟩ := sum h
    exact op_val hs (hrun (n := y.val) (by simp [Builtin.len_, hty', run_underlying hu, hy])) (LR.of_int _ _) hK
  · rename_i e b e' sz o' n hk
    rw [hk] at hkd
    cases d <;> try exact hkd.elim
    cases hB : hget s.h b with
    | none => rw [hB] at h; exact h.elim
    | some B =>
      rw [hB] at h
      obtain ⟨m, hm, _⟩ := hs.hr.live b B hB
      cases hx with
      | goneS _ _ _ _ _ _ _ _ hm' _ => rw [hm] at hm'; cases hm'
      | slv _ _ _ _ _ hm' ho' hn' => exact op_val hs (hrun (n := n.val) (by simp [Builtin.len_, hty', run_underlying hu, hn'])) (LR.of_int _ _) h
      | sl _ _ _ _ _ r j' k' cp tot hm' ho' hn' hk' hc hs' ht' => exact op_val hs (hrun (n := n.val) (by simp [Builtin.len_, hty', run_underlying hu, hn'])) (LR.of_int _ _) h
  · exact h.elim

theorem lop_min {cl : Call} {k k' : IntKind} {x y : I} (ho : o.op = .call cl) (hcl : cl.callee = .builtin .min) (hargs : eva s cl.args.toList = [.p (.int k x), .p (.int k' y)]) (hs : St c s a w)
    (h : Br (fun _ => y.val < x.val) fun c => match c with
        | true => K (s.put o.dst (.p (.int k y)))
        | false => K (s.put o.dst (.p (.int k x)))) : o.wp P a w (Post K c w) Q := by
  obtain ⟨v, u, hv, hx, hy⟩ := args2 hs hargs
  cases hx.inv_int; cases hy.inv_int
  obtain ⟨b, hb, hK⟩ := br h
  have hrun : (execOp a.eval o).run P w = .ok (.value (.int k (if y.val < x.val then y.val else x.val))) w := by
    refine built_run ho hcl fun cs => ?_
    rw [hv]
    simp [builtin, Builtin.min_, Builtin.min2]
  cases b with
  | true => rw [if_pos (hb.1 rfl)] at hrun; exact op_val hs hrun (LR.of_int _ _) hK
  | false => rw [if_neg (fun h => by have := hb.2 h; cases this)] at hrun; exact op_val hs hrun (LR.of_int _ _) hK
theorem lop_max {cl : Call} {k k' : IntKind} {x y : I} (ho : o.op = .call cl) (hcl : cl.callee = .builtin .max) (hargs : eva s cl.args.toList = [.p (.int k x), .p (.int k' y)]) (hs : St c s a w)
    (h : Br (fun _ => x.val < y.val) fun c => match c with
        | true => K (s.put o.dst (.p (.int k y)))
        | false => K (s.put o.dst (.p (.int k x)))) : o.wp P a w (Post K c w) Q := by
  obtain ⟨v, u, hv, hx, hy⟩ := args2 hs hargs
  cases hx.inv_int; cases hy.inv_int
  obtain ⟨b, hb, hK⟩ := br h
  have hrun : (execOp a.eval o).run P w = .ok (.value (.int k (if x.val < y.val then y.val else x.val))) w := by
    refine built_run ho hcl fun cs => ?_
    rw [hv]
    simp [builtin, Builtin.max_, Builtin.max2]
  cases b with
  | true => rw [if_pos (hb.1 rfl)] at hrun; exact op_val hs hrun (LR.of_int _ _) hK
  | false => rw [if_neg (fun h => by have := hb.2 h; cases this)] at hrun; exact op_val hs hrun (LR.of_int _ _) hK
end
end Go.LX
