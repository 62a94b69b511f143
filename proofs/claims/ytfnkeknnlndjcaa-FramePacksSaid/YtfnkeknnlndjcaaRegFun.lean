/- Common: drawn regions: calls of function values, and of copy. -/
import Derived.Test.YtfnkeknnlndjcaaRegRel
import Derived.Laws.CopyOwn
namespace Go.Proofs.Ytfnkeknnlndjcaa.Rel
open Go.RowKit
variable {P : Program} {Q : Exit → Act → World → Prop} {o : Oper} {a : Act} {w : World} {K : Act → World → Prop}
/-- A function value (a closure: what it has captured stands behind its arguments). -/
theorem wp_fv (x : Operand) (xs : List Operand) (ts : Array TypeId) (ho : o.op = .call { callee := .value x, args := xs.toArray, argTypes := ts }) {f : FuncId} {caps : Array Value} (hx : a.eval x = .func (.func f) #[] caps) {fn : Func} (hf : P.funcs[f]? = some fn) (hk : (fn.body.isSome && !(fn.name == "runtime.NumGoroutine")) = true)
    (hc : Calls P f ((xs.map a.eval).toArray ++ caps) w fun e w' => ∃ v, e = .returned v ∧ K (a.put o.dst v) w') : o.wp P a w K Q := by
  unfold Oper.wp execOp
  simp only [ho]
  simp [resolve, Deferred.ofValue, invoke, hx]
  have hr : (callFunc f ((xs.map a.eval).toArray ++ caps)).run P w = .ok (.enter f ((xs.map a.eval).toArray ++ caps)) w := by
    simp only [Bool.and_eq_true, Bool.not_eq_true', Option.isSome_iff_exists] at hk
    obtain ⟨⟨c, hb⟩, hn⟩ := hk
    have hn' : ¬ fn.name = "runtime.NumGoroutine" := by simpa using hn
    simp [callFunc, hf, hb, hn']
  rw [hr]
  refine hc.mono fun e w' ⟨v, he, hK⟩ => ?_
  subst he
  exact hK
theorem wp_cp (d s : Operand) (t t' : TypeId) (ho : o.op = .call { callee := .builtin .copy, args := #[d, s], argTypes := #[t, t'] }) {v u v' : Value} {w' : World} (hd : a.eval d = v) (hs : a.eval s = u)
    (hr : (Builtin.copy_ #[t, t'] o.type #[v, u]).run P w = .ok v' w') (h : K (a.put o.dst v') w') : o.wp P a w K Q := by
  unfold Oper.wp execOp
  simp only [ho, resolve, invoke, builtin, Sem.run_bind, Sem.run_pure, Result.andThen_ok, List.map_toArray, List.map_cons, List.map_nil, hd, hs, hr]
  exact h
end Go.Proofs.Ytfnkeknnlndjcaa.Rel
