/- Bytes in memory that is new. -/
import Derived.Test.YtpmpigglekgfnaaOctMade
import Derived.Test.YtpmpigglekgfnaaRegRel
import Derived.Test.YtpmpigglekgfnaaLst
namespace Go.Proofs.Ytpmpigglekgfnaa.Ent
set_option maxRecDepth 100000
open Go.RowKit
open Go.Sort
open Kit
open Oct
set_option linter.unusedVariables false
variable {w w' : World}

/-- Bytes in memory that is new. -/
def NB (w : World) (B : Nat) (a : Option Addr) (n c : Nat) (L : List UInt8) : Prop := L.length = n ∧ n ≤ c ∧ c ≤ maxLen ∧ (a = none → n = 0 ∧ c = 0) ∧ RowB w a L ∧ ∀ q, a = some q → B ≤ q.block ∧ q.block < w.heap.size
theorem nb_keep {B : Nat} {a : Option Addr} {n c : Nat} {L : List UInt8} (h : NB w B a n c L) (hb : Below w.heap.size w w') : NB w' B a n c L :=
  ⟨h.1, h.2.1, h.2.2.1, h.2.2.2.1, row_keep encB_len h.2.2.2.2.1 hb, fun q hq => ⟨(h.2.2.2.2.2 q hq).1, Nat.lt_of_lt_of_le (h.2.2.2.2.2 q hq).2 hb.size⟩⟩
theorem nb_own {B base : Nat} {v : Value} {L : List UInt8} (h : OwnB w base v L) (hb : B ≤ base) : ∃ a n c, v = .slice a n c ∧ NB w B a n c L := by
  obtain ⟨a, c, rfl, h1, h2, h3, h4⟩ := own_row h
  refine ⟨a, _, c, rfl, rfl, h1, h2, fun e => ⟨by have := h3 e; omega, h3 e⟩, h4, fun q hq => ?_⟩
  subst hq
  have := (own_iff.1 h).lt q.block rfl
  omega
theorem nb_new {B : Nat} {a : Option Addr} {n c : Nat} {L : List UInt8} (h : NB w B a n c L) : NewB w B (.slice a n c) L := by
  obtain ⟨rfl, h2, h3, h4, h5, h6⟩ := h
  exact ⟨a, c, rfl, h2, h3, h4, h5, h6⟩
def kN (B : Nat) (L : List UInt8) : Rel.Kd Rel.Gr := ⟨fun w v => ∃ a n c, v = .slice a n c ∧ NB w B a n c L, fun w w' v hg ⟨a, n, c, h1, h2⟩ => ⟨a, n, c, h1, nb_keep h2 hg⟩⟩
end Go.Proofs.Ytpmpigglekgfnaa.Ent
