/- Octet: bytes in a slot of a region that draws its order. -/
import Derived.Test.YtijenfmkgedkfaaOctLaw
import Derived.Test.YtijenfmkgedkfaaRegRel
namespace Go.Proofs.Ytijenfmkgedkfaa.Oct
open Go.RowKit
open Go.Sort
open Kit
set_option linter.unusedVariables false

/-- A slice of these bytes. -/
def kRow (l : List UInt8) : Rel.Kd Rel.Gr :=
  ⟨fun w v => ∃ a n c, v = .slice a n c ∧ l.length = n ∧ (a = none → n = 0) ∧ RowB w a l,
   fun w w' v hg ⟨a, n, c, h1, h2, h3, h4⟩ => ⟨a, n, c, h1, h2, h3, row_keep encB_len h4 hg⟩⟩
theorem kRow_own {w : World} {base : Nat} {v : Value} {l : List UInt8} (h : OwnB w base v l) : (kRow l).p w v := by
  obtain ⟨a, c, rfl, h1, _, h3, h4⟩ := own_row h
  refine ⟨a, _, c, rfl, rfl, fun e => ?_, h4⟩
  have := h3 e
  omega
theorem kRow_out {w w' : World} {l : List UInt8} {e : Ending} (h : OutB w l e w') : ∃ v, e = .returned v ∧ (kRow l).p w' v ∧ Below w.heap.size w w' := by
  obtain ⟨g, c, rfl, h1, hb⟩ := h
  exact ⟨_, rfl, kRow_own h1.2.2, hb⟩
theorem call_row {P : Program} {f : FuncId} {args : Array Value} {w W : World} {l : List UInt8} {V : Nat → Rel.Kd Rel.Gr} {k : Nat} {o : Oper} {L : Array Bool} {a : Act} (hV : V k = kRow l)
    (h : Calls P f args w fun e w' => ∃ v, e = .returned v ∧ (kRow l).p w' v ∧ Below w.heap.size w w') (hi : Below W.heap.size W w) :
    Calls P f args w fun e w' => ∃ v, e = .returned v ∧ Rel.Left V (fun _ w => Below W.heap.size W w) k o L a w (a.put o.dst v) w' :=
  h.mono fun e w' ⟨v, he, hk, hb⟩ => ⟨v, he, v, rfl, hb, by rw [hV]; exact hk, below_keep hi hb⟩

theorem conv_hid {l : List UInt8} {s : ByteArray} (h : l.toArray = s.data) : ByteArray.mk l.toArray = s := by rw [h]

end Go.Proofs.Ytijenfmkgedkfaa.Oct
