/- Snap: bytes where they lie. -/
import Derived.Test.YtpmpigglekgfnaaSnpMem
namespace Go.Proofs.Ytpmpigglekgfnaa.Snp
set_option maxRecDepth 100000
open Go.RowKit
open Go.Sort
open Kit
open Oct
open Tre (Lst inI lst_keep lst_at lst_new lst_none below_drewN')
open Ent (NB nb_keep nb_own nb_new)
set_option linter.unusedVariables false
variable {w w' : World}

/-- Bytes where they lie: what Decode asks. -/
structure Bs (w : World) (a : Option Addr) (n c : Nat) (l : List UInt8) : Prop where
  len : l.length = n
  cap : n ≤ c
  max : c ≤ maxLen
  nil : a = none → n = 0 ∧ c = 0
  row : RowB w a l
theorem bs_keep {a : Option Addr} {n c : Nat} {l : List UInt8} (h : Bs w a n c l) (hb : Below w.heap.size w w') : Bs w' a n c l := ⟨h.len, h.cap, h.max, h.nil, row_keep encB_len h.row hb⟩
theorem bs_nb {B : Nat} {a : Option Addr} {n c : Nat} {l : List UInt8} (h : NB w B a n c l) : Bs w a n c l := ⟨h.1, h.2.1, h.2.2.1, h.2.2.2.1, h.2.2.2.2.1⟩
theorem bs_take {a : Option Addr} {n c : Nat} {l : List UInt8} (h : Bs w a n c l) (m : Nat) (hm : m ≤ n) : Bs w a m c (l.take m) :=
  ⟨by rw [List.length_take, h.len]; omega, by have := h.cap; omega, h.max, fun e => ⟨by have := (h.nil e).1; omega, (h.nil e).2⟩, row_take h.row m⟩
theorem bs_own {base : Nat} {v : Value} {l : List UInt8} (h : OwnB w base v l) : ∃ a n c, v = .slice a n c ∧ Bs w a n c l := by
  obtain ⟨a, n, c, rfl, h2⟩ := nb_own (B := 0) h (Nat.zero_le _)
  exact ⟨a, n, c, rfl, bs_nb h2⟩
end Go.Proofs.Ytpmpigglekgfnaa.Snp
