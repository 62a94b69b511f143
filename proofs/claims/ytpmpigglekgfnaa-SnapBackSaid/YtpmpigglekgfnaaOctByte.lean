/- Bytes: what lies in memory, what is a call's own, what is appended to it; bytes as arguments. -/
import Derived.Test.YtpmpigglekgfnaaOctMath
import Derived.Test.YtpmpigglekgfnaaTwo
import Derived.Test.YtpmpigglekgfnaaChecked
import Derived.ProofKit
import Derived.WalkKit
import Derived.OwnWalk
import Derived.Lib.AppendStr
import Derived.Deep.DeepAppendWide
import Derived.Laws.IdiomStrings
import Derived.Laws.OwnMore
import Derived.Laws.BitsAllLaws
import Derived.Laws.BytesArg
import Derived.Lib.Hide
namespace Go.Proofs.Ytpmpigglekgfnaa.Oct
open Go.RowKit
open Go.Sort
open Kit
set_option linter.unusedVariables false

theorem row_far {w w' : World} {a : Option Addr} {l : List UInt8} {g : Option Nat} (h : RowB w a l) (hg : w.grownBy w' g) (hne : ∀ q, a = some q → some q.block ≠ g) : RowB w' a l := by
  rcases h with h | ⟨b, off, h1, h2⟩
  · exact .inl h
  · refine .inr ⟨b, off, h1, fun j hj i hi => ?_⟩
    have e := h2 j hj i hi
    rw [List.getElem?_eq_getElem (by rw [encB_len]; exact hi)] at e ⊢
    exact hg.cell e (hne ⟨b, off, none⟩ h1)
theorem grown_setCell (w : World) (p j : Nat) (v : Value) : w.grownBy (w.setCell ⟨p, j, none⟩ v) (some p) := by
  refine ⟨rfl, rfl, rfl, by rw [setCell_size]; exact Nat.le_refl _, fun k _ hk => ?_⟩
  have hne : p ≠ k := fun e => hk (by rw [e])
  unfold World.setCell
  simp [Array.getElem?_modify, hne]
theorem grown_trans {w w1 w2 : World} {g : Option Nat} (h : w.grownBy w1 g) (k : w1.grownBy w2 g) : w.grownBy w2 g :=
  ⟨k.os.trans h.os, k.tape.trans h.tape, k.output.trans h.output, Nat.le_trans h.size k.size, fun i hi hn => (k.block i (Nat.lt_of_lt_of_le hi h.size) hn).trans (h.block i hi hn)⟩
theorem grown_below {w w' : World} {B g : Nat} (h : w.grownBy w' (some g)) (hB : B ≤ w.heap.size) (hg : B ≤ g) : Below B w w' :=
  ⟨h.os, h.tape, h.output, h.size, fun k hk => h.block k (by omega) (by intro e; injection e; omega)⟩
theorem row_setCell {w : World} {a : Option Addr} {l : List UInt8} {p j : Nat} {v : Value} (h : RowB w a l) (hne : ∀ q, a = some q → q.block ≠ p) : RowB (w.setCell ⟨p, j, none⟩ v) a l :=
  row_far h (grown_setCell _ _ _ _) (fun q hq e => hne q hq (by injection e))
theorem frozen_of_block {w w' : World} {b o : Nat} (h : w'.heap[b]? = w.heap[b]?) : w'.frozen? ⟨b, o, none⟩ = w.frozen? ⟨b, o, none⟩ := World.frozen?_of_block h
theorem info8 : (Try.prog.info? 5).map (fun i => (i.zero, i.size, i.bytes)) = some (some (.int .u8 0), 1, 1) := by kernel_rfl
/-- A list of bytes of the call's own. -/
abbrev OwnB (w : World) (base : Nat) (v : Value) (l : List UInt8) : Prop := Kit.Owns encB 1 5 w base v l
def cellsB (l : List UInt8) : List Value := l.map fun b => Value.int .u8 (b.toNat : Int)
theorem flat_cells : ∀ l : List UInt8, Kit.flat encB l = cellsB l
  | [] => rfl
  | b :: l => by
    show encB b ++ Kit.flat encB l = _
    rw [flat_cells l]; rfl
theorem cellsB_length (l : List UInt8) : (cellsB l).length = l.length := by simp [cellsB]
theorem cellsB_one (l : List UInt8) : ∀ u ∈ cellsB l, u.oneCell' = true := by
  intro u hu
  simp only [cellsB, List.mem_map] at hu
  obtain ⟨b, _, rfl⟩ := hu
  rfl
theorem cellsB_append (l k : List UInt8) : cellsB (l ++ k) = cellsB l ++ cellsB k := by simp [cellsB]
theorem own_iff {w : World} {base : Nat} {v : Value} {l : List UInt8} : OwnB w base v l ↔ w.ownsRow base 5 1 v l.length (cellsB l) := by
  unfold OwnB Kit.Owns; rw [flat_cells]
/-- The cells of a list that lies in memory. -/
theorem row_cells {w : World} {a : Option Addr} {l : List UInt8} (h : RowB w a l) : ∀ ad, a = some ad → ∀ j u, (cellsB l)[j]? = some u → w.cell? (ad.add j) = some u := by
  intro ad had j u hu
  have hj : j < l.length := by rw [← cellsB_length]; exact (List.getElem?_eq_some_iff.1 hu).1
  rcases h with rfl | ⟨b, off, h1, h2⟩
  · simp at hj
  · rw [h1] at had
    injection had with had
    subst had
    rw [add_plain]
    have := h2 j hj 0 (by omega)
    simp only [cellsB, List.getElem?_map, List.getElem?_eq_getElem hj, Option.map_some] at hu
    injection hu with hu
    subst hu
    simpa [encB] using this
theorem one_cell (w : World) {u v : Value} {T : TypeId} (h : u = v) : ∀ (j : Nat) (x : Value), [v][j]? = some x → (w.alloc (.cells #[u] T)).cell? ((⟨w.heap.size, 0, none⟩ : Addr).add j) = some x := by
  intro j x hj
  subst h
  rw [add_plain, World.cell?_alloc_new]
  cases j with
  | zero => simpa using hj
  | succ j => simp at hj
theorem own_row {w : World} {base : Nat} {v : Value} {l : List UInt8} (h : OwnB w base v l) : ∃ a cap, v = .slice a l.length cap ∧ l.length ≤ cap ∧ cap ≤ maxLen ∧ (a = none → cap = 0) ∧ RowB w a l := Kit.owns_row encB_len h
/-- 'append' of bytes to bytes of the call's own. -/
theorem append_b {w : World} {ops : Array Oper} {rest : List Oper} {o : Oper} {A : Act} {Q : Exit → Act → World → Prop} (hgd : o.guard = none) (s x : Operand)
    (ho : o.op = .call { callee := .builtin .append, args := #[s, x], argTypes := #[29, 29] })
    (base : Nat) (v : Value) (l : List UInt8) (hv : A.eval s = v) (hown : OwnB w base v l) (ad : Option Addr) (m c : Nat) (k : List UInt8) (hx : A.eval x = .slice ad m c) (hk : k.length = m) (hrow : RowB w ad k) (hnil : ad = none → m = 0 ∧ c = 0)
    (hbytes : l.length + m ≤ 150000000000000) (hbase : base ≤ w.heap.size)
    (h : ∀ v' w', OwnB w' base v' (l ++ k) → Below base w w' → wpList Try.prog ops Q rest (A.put o.dst v') w') : wpList Try.prog ops Q (o :: rest) A w := by
  obtain ⟨i0, hi, hz0, hz1, hz2⟩ := info_parts info8
  cases ad with
  | none =>
    obtain ⟨rfl, rfl⟩ := hnil rfl
    obtain rfl : k = [] := List.length_eq_zero_iff.1 hk
    exact wpList_append_own_none hgd s x _ ho base 5 i0 1 Try.underlying29 hi v l.length _ hv hown hx (h v w (by rw [List.append_nil]; exact hown) (Below.refl _ _))
  | some q =>
    refine wpList_append_own_wide _ hgd s x _ ho base 5 i0 (.int .u8 0) 1 1 Try.underlying29 hi hz0 hz1 hz2 rfl (by decide) v l.length _ hv (own_iff.1 hown) q m c (cellsB k) hx (by rw [cellsB_length, hk, Nat.mul_one]) (row_cells hrow q rfl) (cellsB_one k) (by unfold maxLen; omega) (by omega) hbase ?_
    intro v' w' h1 h2 _
    refine h v' w' (own_iff.2 (by rw [List.length_append, hk, cellsB_append]; exact h1)) ((Below.refl _ _).grown h2 hbase fun k hk => ((own_iff.1 hown).lt k hk).1)
/-- The same, with what becomes of other lists of the call's own. -/
theorem append_b2 {w : World} {ops : Array Oper} {rest : List Oper} {o : Oper} {A : Act} {Q : Exit → Act → World → Prop} (hgd : o.guard = none) (s x : Operand)
    (ho : o.op = .call { callee := .builtin .append, args := #[s, x], argTypes := #[29, 29] })
    (base : Nat) (v : Value) (l : List UInt8) (hv : A.eval s = v) (hown : OwnB w base v l) (ad : Option Addr) (m c : Nat) (k : List UInt8) (hx : A.eval x = .slice ad m c) (hk : k.length = m) (hrow : RowB w ad k) (hnil : ad = none → m = 0 ∧ c = 0)
    (hbytes : l.length + m ≤ 140737488355328) (hbase : base ≤ w.heap.size)
    (h : ∀ v' w', OwnB w' base v' (l ++ k) → w.grownBy w' v.ownBlock → (v'.ownBlock = v.ownBlock ∨ v'.ownBlock = some w.heap.size) → wpList Try.prog ops Q rest (A.put o.dst v') w') : wpList Try.prog ops Q (o :: rest) A w :=
  Two.append_apart encB_len (by decide) encB_one hgd s x _ 5 ho Try.underlying29 (.int .u8 0) 1 info8 rfl base v l hv hown ad m c k hx hk hrow hnil (by unfold maxLen; omega) (by omega) hbase h
theorem own_empty (w : World) (base : Nat) (hb : base ≤ w.heap.size) : OwnB (w.alloc (.cells #[] 5)) base (.slice (some ⟨w.heap.size, 0, none⟩) 0 0) [] :=
  own_iff.2 (World.ownsRow_made w #[] 0 hb (by unfold maxLen; omega) rfl)
theorem row_alloc {w : World} {a : Option Addr} {l : List UInt8} (h : RowB w a l) (o : Obj) : RowB (w.alloc o) a l := row_keep encB_len h (below_alloc w o)
theorem row_one (w : World) {v : Value} {b : UInt8} {T : TypeId} (h : v = .int .u8 (b.toNat : Int)) : RowB (w.alloc (.cells #[v] T)) (some ⟨w.heap.size, 0, none⟩) [b] :=
  Kit.row_new encB_len w [b] #[v] T _ rfl (by subst h; rfl)
theorem row_two (w : World) {v v' : Value} {b b' : UInt8} {T : TypeId} (h : v = .int .u8 (b.toNat : Int)) (h' : v' = .int .u8 (b'.toNat : Int)) : RowB (w.alloc (.cells #[v, v'] T)) (some ⟨w.heap.size, 0, none⟩) [b, b'] :=
  Kit.row_new encB_len w [b, b'] #[v, v'] T _ rfl (by subst h h'; rfl)
theorem be_shift (n k : Nat) : beB (k + 1) n = UInt8.ofNat (n / 2 ^ (8 * k)) :: beB k n := by
  show UInt8.ofNat (n / 256 ^ k) :: _ = _
  rw [show (256 : Nat) = 2 ^ 8 from rfl, ← Nat.pow_mul]
theorem byte_val (n k : Nat) : Value.int .u8 ((n : Int) / 2 ^ (8 * k) % 256) = .int .u8 ((UInt8.ofNat (n / 2 ^ (8 * k))).toNat : Int) := by
  rw [u8_of, Int.natCast_emod, Int.natCast_ediv, Int.natCast_pow]; rfl
/-- '[]byte("..")' of a constant. -/
theorem row_mark (w : World) (C : Array Value) (T : TypeId) (fr : Nat × Nat) (l : List UInt8) (hC : C.toList = cellsB l) : RowB (w.alloc (.cells C T fr)) (some ⟨w.heap.size, 0, none⟩) l := by
  refine .inr ⟨_, _, rfl, fun j hj i hi => ?_⟩
  have : i = 0 := by omega
  subst this
  have e : C[j]? = (cellsB l)[j]? := by rw [← hC]; simp
  rw [Nat.mul_one, Nat.zero_add, Nat.add_zero, World.cell?_alloc_mark, e]
  simp [encB, cellsB, List.getElem?_eq_getElem hj]
/-- '[]byte(s)' lies in memory. -/
theorem row_string (w : World) (s : ByteArray) (cap : Nat) (T : TypeId) (fr : Nat × Nat) : RowB (w.alloc (.cells (bytesRow s cap) T fr)) (some ⟨w.heap.size, 0, none⟩) s.data.toList := by
  refine .inr ⟨_, _, rfl, fun j hj i hi => ?_⟩
  have : i = 0 := by omega
  subst this
  rw [Nat.mul_one, Nat.zero_add, Nat.add_zero, World.cell?_alloc_mark, bytesRow_at s cap j (by simpa using hj)]
  simp [encB]
def RByte (cs : List Value) (b : UInt8) : Prop := cs = encB b
theorem cells_u8 : Try.prog.cellsOf 5 = 1 := by kernel_rfl
theorem opens_byte {w : World} : Opn.Opens Try.prog w 5 RByte :=
  Opn.Opens.mono (Opn.opens_int Try.underlying5) fun cs n ⟨h, hw⟩ => ⟨UInt8.ofNat n.toNat, by
    simp [Lit.wf, IntKind.min, IntKind.max, IntKind.signed, IntKind.bits] at hw
    subst h
    unfold RByte encB
    rw [u8_of]
    congr 2
    omega⟩
theorem opens_bytes {w : World} : Opn.Opens Try.prog w 29 (Opn.RSlice RByte 1 w) := Opn.opens_slice Try.underlying29 cells_u8 (by omega) opens_byte
/-- A slice of bytes that came in. -/
theorem bytes_arg {w : World} {a : Option Addr} {len cap : Nat} {l : List UInt8} (h : Opn.RSlice RByte 1 w [.slice a len cap] l) : l.length = len ∧ len ≤ cap ∧ cap ≤ maxLen ∧ (a = none → len = 0 ∧ cap = 0) ∧ RowB w a l := by
  obtain ⟨a', len', cap', he, hl, hc, hm, hn, hcs⟩ := h
  simp at he
  obtain ⟨rfl, rfl, rfl⟩ := he
  exact ⟨hl, hc, hm, hn, Kit.row_of_cells (fun _ _ h => h) hcs⟩
/-- One byte of the call's own is changed. -/
theorem own_set {w : World} {base g n cap : Nat} {l : List UInt8} (h : OwnB w base (.slice (some ⟨g, 0, none⟩) n cap) l) (hn : l.length = n) {i : Nat} (hi : i < n) {x : UInt8} (hx : l[i]? = some x) (b : UInt8) :
    w.cell? ⟨g, i, none⟩ = some (.int .u8 (x.toNat : Int)) ∧ w.frozen? ⟨g, i, none⟩ = false ∧
      OwnB (w.setCell ⟨g, i, none⟩ (.int .u8 (b.toNat : Int))) base (.slice (some ⟨g, 0, none⟩) n cap) (l.set i b) ∧ w.grownBy (w.setCell ⟨g, i, none⟩ (.int .u8 (b.toNat : Int))) (some g) := by
  subst hn
  have ho := own_iff.1 h
  refine ⟨?_, ho.frozenAt i, ?_, (ho.stored i _).2⟩
  · rw [ho.cellAt i (by omega)]
    simp [cellsB, List.getElem?_map, hx]
  · refine own_iff.2 ?_
    rw [List.length_set]
    have e : cellsB (l.set i b) = (cellsB l).set i (.int .u8 (b.toNat : Int)) := by unfold cellsB; rw [List.map_set]
    rw [e]
    exact (ho.stored i _).1
theorem own_row' {w : World} {base g n cap : Nat} {l : List UInt8} (h : OwnB w base (.slice (some ⟨g, 0, none⟩) n cap) l) : RowB w (some ⟨g, 0, none⟩) l := by
  obtain ⟨a', c', he, _, _, _, h6⟩ := own_row h
  injection he with e1 _ _
  subst e1
  exact h6
theorem row_below {w w' : World} {B : Nat} {a : Option Addr} {l : List UInt8} (h : RowB w a l) (hb : Below B w w') (hlt : ∀ q, a = some q → q.block < B) : RowB w' a l := by
  rcases h with h | ⟨b, off, h1, h2⟩
  · exact .inl h
  · refine .inr ⟨b, off, h1, fun j hj i hi => ?_⟩
    rw [hb.cell (p := ⟨b, off + j * 1 + i, none⟩) (hlt ⟨b, off, none⟩ h1)]
    exact h2 j hj i hi
theorem row_belowAt {w w' : World} {B g off : Nat} {l : List UInt8} (h : RowB w (some ⟨g, off, none⟩) l) (hb : Below B w w') (hlt : g < B) : RowB w' (some ⟨g, off, none⟩) l :=
  row_below h hb fun q hq => by injection hq with hq; subst hq; exact hlt
theorem own_keep {w w' : World} {base : Nat} {v : Value} {l : List UInt8} (h : OwnB w base v l) (hb : Below w.heap.size w w') : OwnB w' base v l :=
  own_iff.2 ((own_iff.1 h).kept (row := none) ⟨hb.os, hb.tape, hb.output, hb.size, fun k hk _ => hb.block k hk⟩ (by cases v.ownBlock <;> simp))
theorem xor_byte (x : UInt8) (t : Nat) (ht : t < 256) : bits .xor .u8 (x.toNat : Int) (t : Int) = ((UInt8.ofNat (x.toNat ^^^ t)).toNat : Int) := by
  have hx := x.toNat_lt
  rw [u8_xor_nat _ _ hx ht, u8_of, Nat.mod_eq_of_lt]
  exact Nat.xor_lt_two_pow (n := 8) hx ht

/-- 'string(b)'. -/
theorem conv_row {P : Program} {src dst e : TypeId} (hs : P.underlying src = some (.slice e)) (he : P.underlying e = some (.int .u8)) (hd : P.underlying dst = some .string)
    {w : World} {a : Option Addr} {len cap : Nat} {l : List UInt8} (hl : l.length = len) (hn : a = none → len = 0) (h : RowB w a l) :
    (convert src dst (.slice a len cap)).run P w = .ok (.string ⟨l.toArray⟩) w := by
  subst hl
  cases a with
  | none =>
    have : l = [] := List.length_eq_zero_iff.1 (hn rfl)
    subst this
    exact run_convert_bytes_nil w src e hs he _ _ dst hd
  | some q =>
    refine run_convert_bytes_back w src dst e q cap l hs he hd fun j hj => ?_
    rcases h with rfl | ⟨b, off, h1, h2⟩
    · simp at hj
    · simp at h1
      subst h1
      rw [add_plain]
      have := h2 j hj 0 (by omega)
      simpa [encB] using this

end Go.Proofs.Ytpmpigglekgfnaa.Oct
