/-
  Proved here: a call of a Go function, an append of made places, at a step of a region that draws its order.
  Conditions: none.
-/
import Derived.Test.YtejljkpnhdnncaaArrs
import Derived.Deep.RegionLaw
namespace Go.Proofs.Ytejljkpnhdnncaa
open Go Go.RowKit
set_option maxRecDepth 100000

/-- At a step of a region that draws its order: a call of a Go function by its contract. -/
theorem step_callR {P : Program} {ops : Array Oper} {o : Oper} {a : Act} {K : Act → World → Prop} {Q : Exit → Act → World → Prop} {E : Prop} (hgd : o.guard = none) (n : FuncId) (args : Array Operand) (tys : Array TypeId)
    (ho : o.op = .call { callee := .value (.func n), args := args, argTypes := tys }) {w : World} (vs : Array Value) (hv : args.map a.eval = vs) (he : ∀ args w, (callFunc n args).run P w = .ok (.enter n args) w) {R : Ending → World → Prop} (hc : Calls P n vs w R)
    (h : ∀ e w', R e w' → ∃ v, e = .returned v ∧ K (a.put o.dst v) w') : if Region.wanted o (yielded ops a.tmps) = true then Oper.wp P o a w K Q else E := by
  have hw : Region.wanted o (yielded ops a.tmps) = true := by simp [Region.wanted, hgd]
  rw [if_pos hw]
  unfold Oper.wp execOp
  have e1 : (a.eval (.func n)) = .func (.func n) #[] #[] := rfl
  have e2 : (execOp a.eval o).run P w = .ok (.enter n vs) w := by
    simp [execOp, ho, resolve, invoke, hv, e1, Deferred.ofValue, he]
  unfold execOp at e2
  rw [e2, Oper.upon_enter]
  refine hc.mono fun e w' hh => ?_
  obtain ⟨v, rfl, hk⟩ := h e w' hh
  exact hk
/-- At a step of a region that draws its order: an append of made places whose run is known. -/
theorem step_appz {P : Program} {ops : Array Oper} {o : Oper} {a : Act} {K : Act → World → Prop} {Q : Exit → Act → World → Prop} {E : Prop} (hgd : o.guard = none) (s x : Operand) (t u : TypeId)
    (ho : o.op = .call { callee := .builtin .append, args := #[s, x], argTypes := #[t, u] }) {w w' : World} {v V v' : Value} (hs : a.eval s = v) (hx : a.eval x = V)
    (hrun : (Builtin.append_ #[t, u] o.type #[v, V]).run P w = .ok v' w') (h : K (a.put o.dst v') w') : if Region.wanted o (yielded ops a.tmps) = true then Oper.wp P o a w K Q else E := by
  have hw : Region.wanted o (yielded ops a.tmps) = true := by simp [Region.wanted, hgd]
  rw [if_pos hw]
  unfold Oper.wp execOp
  simp only [ho, resolve, invoke, builtin, Sem.run_bind, Sem.run_pure, Result.andThen_ok, List.map_toArray, List.map_cons, List.map_nil, hs, hx, hrun]
  exact h

end Go.Proofs.Ytejljkpnhdnncaa
