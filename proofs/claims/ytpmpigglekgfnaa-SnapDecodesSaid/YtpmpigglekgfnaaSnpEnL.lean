/- Snap: what an Encode meets in memory (no document's function). -/
import Derived.Test.YtpmpigglekgfnaaSnpBs
import Derived.Test.YtpmpigglekgfnaaFoot
import Derived.Test.YtpmpigglekgfnaaRegChn
import Derived.Test.YtpmpigglekgfnaaNest
import Derived.Test.YtpmpigglekgfnaaPut
namespace Go.Proofs.Ytpmpigglekgfnaa.Snp
set_option maxRecDepth 100000
open Go.RowKit
open Go.Sort
open Kit
open Oct
open Foot
open Tre (Lst inI lst_keep lst_at lst_new lst_none IntsL int_cell encI encI_len below_drewN' Funds Allocs Al encF encF_len encL_len fund_cells alloc_cells6)
open Rte (Rt Rates encR encR_len rate_cells)
open Job (Jb Jv Jobs encJ encJ_len job_cell job_keep)
open Drw (Dw Draws encD encD_len draw_cells)
open Ent (NB nb_keep nb_own nb_new int8 txt ints ints_len int8_len txt_len)
set_option linter.unusedVariables false
variable {w w' : World}


theorem box_cells {B : Nat} {x : Sv} (h : Arr.Blk w B 28 (encV x)) :
    w.cell? ⟨B, 0, none⟩ = some (.int .i64 x.seq) ∧ w.cell? ⟨B, 1, none⟩ = some (.int .i64 x.world) ∧ w.cell? ⟨B, 2, none⟩ = some (.int .i64 x.next) ∧ w.cell? ⟨B, 3, none⟩ = some (.slice x.f.a x.f.n x.f.c) ∧ w.cell? ⟨B, 4, none⟩ = some (.slice x.l.a x.l.n x.l.c) ∧ w.cell? ⟨B, 5, none⟩ = some (.slice x.r.a x.r.n x.r.c) ∧ w.cell? ⟨B, 6, none⟩ = some (.slice x.j.a x.j.n x.j.c) ∧ w.cell? ⟨B, 7, none⟩ = some (.slice x.k.a x.k.n x.k.c) :=
  ⟨Arr.blk_cell h 0, Arr.blk_cell h 1, Arr.blk_cell h 2, Arr.blk_cell h 3, Arr.blk_cell h 4, Arr.blk_cell h 5, Arr.blk_cell h 6, Arr.blk_cell h 7⟩
/-- A refusal's answer. -/
theorem enc_bad {W : World} {t : Sn} (h : ¬ Fits t) (hb : Below W.heap.size W w) : ∃ a n c, Ending.returned (.tuple #[.slice none 0 0, .int .i64 3]) = .returned (.tuple #[.slice a n c, .int .i64 (encE t)]) ∧ NB w W.heap.size a n c (encL t) ∧ Below W.heap.size W w :=
  ⟨none, 0, 0, by rw [(enc_no h).1], by rw [(enc_no h).2]; exact ⟨rfl, Nat.le_refl _, Nat.zero_le _, fun _ => ⟨rfl, rfl⟩, .inl rfl, fun q hq => by cases hq⟩, hb⟩

def kOB (B : Nat) (E : List UInt8) : Rel.Kd Rel.Gr := ⟨fun w v => OwnB w B v E, fun w w' v hg h => Nest.own_on h hg⟩
def kLit (xs : List Int) : Rel.Kd Rel.Gr := ⟨fun w v => ∃ b, v = .slice (some ⟨b, 0, none⟩) xs.length xs.length ∧ Arr.Blk w b 3 (flat encI xs), fun w w' v hg ⟨b, e, h⟩ => ⟨b, e, Arr.blk_below h hg (Arr.blk_lt h)⟩⟩
theorem kob_of {B base : Nat} {v : Value} {E : List UInt8} (h : OwnB w base v E) (hb : B ≤ base) : (kOB B E).p w v := Foot.owns_le h hb
theorem kob_txt {B base : Nat} {v : Value} {E : List UInt8} {s : ByteArray} (h : OwnB w base v (E ++ beB 2 s.size ++ s.data.toList)) (hb : B ≤ base) : (kOB B (E ++ txt s)).p w v := by
  rw [List.append_assoc] at h
  exact Foot.owns_le h hb
theorem wp_bs2 {P : Program} {o : Oper} {a : Act} {K : Act → World → Prop} {Q : Exit → Act → World → Prop} (t : TypeId) (x y : Operand) (ho : o.op = .buildSlice t 2 #[(0, x), (1, y)]) {vx vy u : Value} {w' : World} (hx : a.eval x = vx) (hy : a.eval y = vy) (hr : (Instr.buildSlice t 2 #[(0, vx), (1, vy)]).run P w = .ok u w') (h : K (a.put o.dst u) w') : o.wp P a w K Q :=
  Chn.wp_bs t 2 _ ho (by simpa [hx, hy] using hr) h
theorem wp_bs3 {P : Program} {o : Oper} {a : Act} {K : Act → World → Prop} {Q : Exit → Act → World → Prop} (t : TypeId) (x y z : Operand) (ho : o.op = .buildSlice t 3 #[(0, x), (1, y), (2, z)]) {vx vy vz u : Value} {w' : World} (hx : a.eval x = vx) (hy : a.eval y = vy) (hz : a.eval z = vz) (hr : (Instr.buildSlice t 3 #[(0, vx), (1, vy), (2, vz)]).run P w = .ok u w') (h : K (a.put o.dst u) w') : o.wp P a w K Q :=
  Chn.wp_bs t 3 _ ho (by simpa [hx, hy, hz] using hr) h
theorem lit_of (w : World) (xs : List Int) (A : Array Value) (hA : A.toList = flat encI xs) : (kLit xs).p (w.alloc (.cells A 3)) (.slice (some ⟨w.heap.size, 0, none⟩) xs.length xs.length) := ⟨w.heap.size, rfl, by rw [← hA]; exact Arr.blk_new w _ _ _ rfl⟩
theorem flat_ints : ∀ xs : List Int, flat encI xs = xs.map fun x => .int .i64 x
  | [] => rfl
  | x :: xs => by
    have := flat_ints xs
    show encI x ++ flat encI xs = _
    rw [this]; rfl
theorem lit_ints {b m : Nat} {xs : List Int} (h : Arr.Blk w b 3 (flat encI xs)) (hm : xs.length = m) (hm2 : m ≤ 1000) : IntsL w (some ⟨b, 0, none⟩) m m xs := by
  refine ⟨hm, Nat.le_refl _, by unfold maxLen; omega, fun e => (by cases e), .inr ⟨b, 0, rfl, fun j hj i hi => ?_⟩⟩
  obtain rfl : i = 0 := by omega
  rw [show 0 + j * 1 + 0 = j by omega, Arr.blk_cell h, flat_ints, List.getElem?_map, List.getElem?_eq_getElem hj]
  rfl
theorem run_bs2 (x y : Int) (w : World) : (Instr.buildSlice 58 2 #[(0, .int .i64 x), (1, .int .i64 y)]).run Try.prog w = .ok (.slice (some ⟨w.heap.size, 0, none⟩) 2 2) (w.alloc (.cells #[.int .i64 x, .int .i64 y] 3)) := by
  simp [go_sem]
theorem run_bs3 (x y z : Int) (w : World) : (Instr.buildSlice 58 3 #[(0, .int .i64 x), (1, .int .i64 y), (2, .int .i64 z)]).run Try.prog w = .ok (.slice (some ⟨w.heap.size, 0, none⟩) 3 3) (w.alloc (.cells #[.int .i64 x, .int .i64 y, .int .i64 z] 3)) := by
  simp [go_sem]
theorem run_ld2 {a : Addr} {x : Int} (h : w.cell? a = some (.int .i64 x)) : (Instr.loadAt 3 (.pointer (some a))).run Try.prog w = .ok (.int .i64 x) w := by simp [go_sem, h]
theorem run_ld_s {a : Addr} {x : ByteArray} (h : w.cell? a = some (.string x)) : (Instr.loadAt 9 (.pointer (some a))).run Try.prog w = .ok (.string x) w := by simp [go_sem, h]
theorem run_ld_f {a : Addr} {v : Value} (h : w.cell? a = some v) : (Instr.loadAt 22 (.pointer (some a))).run Try.prog w = .ok v w := by simp [go_sem, h]
theorem run_ld_r {a : Addr} {v : Value} (h : w.cell? a = some v) : (Instr.loadAt 24 (.pointer (some a))).run Try.prog w = .ok v w := by simp [go_sem, h]
theorem run_ld_d {a : Addr} {v : Value} (h : w.cell? a = some v) : (Instr.loadAt 53 (.pointer (some a))).run Try.prog w = .ok v w := by simp [go_sem, h]
theorem run_if {b o n c k : Nat} (h : k < n) (w : World) : (Instr.indexAt 22 (.slice (some ⟨b, o, none⟩) n c) (.int .i64 (k : Nat))).run Try.prog w = .ok (.pointer (some ⟨b, o + k * 3, none⟩)) w := by simp [go_sem, h]
theorem run_ir {b o n c k : Nat} (h : k < n) (w : World) : (Instr.indexAt 24 (.slice (some ⟨b, o, none⟩) n c) (.int .i64 (k : Nat))).run Try.prog w = .ok (.pointer (some ⟨b, o + k * 3, none⟩)) w := by simp [go_sem, h]
theorem run_id {b o n c k : Nat} (h : k < n) (w : World) : (Instr.indexAt 53 (.slice (some ⟨b, o, none⟩) n c) (.int .i64 (k : Nat))).run Try.prog w = .ok (.pointer (some ⟨b, o + k * 2, none⟩)) w := by simp [go_sem, h]
theorem ints_one (x : Int) : ints [x] = int8 x := by unfold ints; rw [List.flatMap_cons, List.flatMap_nil, List.append_nil]
theorem take_next {α : Type} {l : List α} {k : Nat} {x : α} (h : l[k]? = some x) (f : α → List UInt8) : (l.take (k + 1)).flatMap f = (l.take k).flatMap f ++ f x := by
  obtain ⟨hk, e⟩ := List.getElem?_eq_some_iff.1 h
  rw [List.take_succ_eq_append_getElem hk, e, List.flatMap_append, List.flatMap_cons, List.flatMap_nil, List.append_nil]
theorem fd_enc (n : ByteArray) (p q : Int) : cFd.enc ⟨n, p, q⟩ = txt n ++ ints [p, q] := by
  show txt n ++ (int8 p ++ int8 q) = _
  unfold ints
  rw [List.flatMap_cons, List.flatMap_cons, List.flatMap_nil, List.append_nil]
theorem all_next {α : Type} {l : List α} {k : Nat} {x : α} (h : l[k]? = some x) {p : α → Prop} (hp : ∀ y ∈ l.take k, p y) (hx : p x) : ∀ y ∈ l.take (k + 1), p y := by
  obtain ⟨hk, e⟩ := List.getElem?_eq_some_iff.1 h
  intro y hy
  rw [List.take_succ_eq_append_getElem hk, e] at hy
  rcases List.mem_append.1 hy with hy | hy
  · exact hp y hy
  · rw [List.mem_singleton] at hy; subst hy; exact hx
theorem all_none {α : Type} {l : List α} {p : α → Prop} : ∀ y ∈ l.take 0, p y := fun y hy => by rw [List.take_zero] at hy; cases hy
/-- What is written so far, and what else there is. -/
structure At (W1 : World) (L : Nat) (E : List UInt8) (w : World) (v : Value) : Prop where
  own : OwnB w W1.heap.size v E
  below : Below W1.heap.size W1 w
  len : E.length ≤ L
theorem al_enc (x : Al) : cAl.enc x = ints [x.fund, x.from', x.till, x.avail, x.lien, x.spent] := by
  show int8 _ ++ (int8 _ ++ (int8 _ ++ (int8 _ ++ (int8 _ ++ int8 _)))) = _
  unfold ints
  simp only [List.flatMap_cons, List.flatMap_nil, List.append_nil]
theorem alloc_at {b o n c k : Nat} {l : List Al} {x : Al} (h : Allocs w (some ⟨b, o, none⟩) n c l) (hx : l[k]? = some x) : w.cell? ⟨b, o + k * 6, none⟩ = some (.int .i64 x.fund) ∧ w.cell? ⟨b, o + k * 6 + 1, none⟩ = some (.int .i64 x.from') ∧ w.cell? ⟨b, o + k * 6 + 2, none⟩ = some (.int .i64 x.till) ∧ w.cell? ⟨b, o + k * 6 + 3, none⟩ = some (.int .i64 x.avail) ∧ w.cell? ⟨b, o + k * 6 + 4, none⟩ = some (.int .i64 x.lien) ∧ w.cell? ⟨b, o + k * 6 + 5, none⟩ = some (.int .i64 x.spent) := by
  obtain ⟨hk, e⟩ := List.getElem?_eq_some_iff.1 hx
  have := alloc_cells6 h hk
  rwa [e] at this
theorem rt_enc (x : Rt) : cRt.enc x = ints [x.qos, x.from', x.price] := by
  show int8 _ ++ (int8 _ ++ int8 _) = _
  unfold ints
  simp only [List.flatMap_cons, List.flatMap_nil, List.append_nil]
theorem rate_at {b o n c k : Nat} {l : List Rt} {x : Rt} (h : Rates w (some ⟨b, o, none⟩) n c l) (hx : l[k]? = some x) : w.cell? ⟨b, o + k * 3, none⟩ = some (.int .i64 x.qos) ∧ w.cell? ⟨b, o + k * 3 + 1, none⟩ = some (.int .i64 x.from') ∧ w.cell? ⟨b, o + k * 3 + 2, none⟩ = some (.int .i64 x.price) := by
  obtain ⟨hk, e⟩ := List.getElem?_eq_some_iff.1 hx
  have := rate_cells h hk
  rwa [e] at this
theorem jb_enc (j : Jb) : cJb.enc j = ints (eleven j ++ [(j.draws.length : Int)]) ++ j.draws.flatMap cDw.enc := by
  show (eleven j).flatMap int8 ++ (int8 _ ++ _) = _
  unfold ints
  rw [List.flatMap_append, List.flatMap_cons, List.flatMap_nil, List.append_nil, List.append_assoc]
theorem dw_enc (x : Dw) : cDw.enc x = ints [x.alloc, x.amt] := by
  show int8 _ ++ int8 _ = _
  unfold ints
  simp only [List.flatMap_cons, List.flatMap_nil, List.append_nil]
theorem job_all {b o n c k : Nat} {l : List Jv} {x : Jv} (h : Jobs w (some ⟨b, o, none⟩) n c l) (hx : l[k]? = some x) : w.cell? ⟨b, o + k * 12, none⟩ = some (.int .i64 x.t.id) ∧ w.cell? ⟨b, o + k * 12 + 1, none⟩ = some (.int .i64 x.t.fund) ∧ w.cell? ⟨b, o + k * 12 + 2, none⟩ = some (.int .i64 x.t.nodes) ∧ w.cell? ⟨b, o + k * 12 + 3, none⟩ = some (.int .i64 x.t.wall) ∧ w.cell? ⟨b, o + k * 12 + 4, none⟩ = some (.int .i64 x.t.qos) ∧ w.cell? ⟨b, o + k * 12 + 5, none⟩ = some (.int .i64 x.t.prio) ∧ w.cell? ⟨b, o + k * 12 + 6, none⟩ = some (.int .i64 x.t.price) ∧ w.cell? ⟨b, o + k * 12 + 7, none⟩ = some (.int .i64 x.t.state) ∧ w.cell? ⟨b, o + k * 12 + 8, none⟩ = some (.int .i64 x.t.start) ∧ w.cell? ⟨b, o + k * 12 + 9, none⟩ = some (.int .i64 x.t.mask) ∧ w.cell? ⟨b, o + k * 12 + 10, none⟩ = some (.int .i64 x.t.used) ∧ w.cell? ⟨b, o + k * 12 + 11, none⟩ = some (.slice x.a x.n x.c) := by
  obtain ⟨hk, e⟩ := List.getElem?_eq_some_iff.1 hx
  have h' := fun i hi => job_cell h hk i hi
  rw [e] at h'
  exact ⟨h' 0 (by omega), h' 1 (by omega), h' 2 (by omega), h' 3 (by omega), h' 4 (by omega), h' 5 (by omega), h' 6 (by omega), h' 7 (by omega), h' 8 (by omega), h' 9 (by omega), h' 10 (by omega), h' 11 (by omega)⟩
theorem draw_at {b o n c k : Nat} {l : List Dw} {x : Dw} (h : Draws w (some ⟨b, o, none⟩) n c l) (hx : l[k]? = some x) : w.cell? ⟨b, o + k * 2, none⟩ = some (.int .i64 x.alloc) ∧ w.cell? ⟨b, o + k * 2 + 1, none⟩ = some (.int .i64 x.amt) := by
  obtain ⟨hk, e⟩ := List.getElem?_eq_some_iff.1 hx
  have := draw_cells h hk
  rwa [e] at this
/-- A box of another type stays. -/
theorem box_stays {W1 : World} {L : Nat} {E : List UInt8} {v : Value} {b : Nat} {cs : List Value} (h : Arr.Blk w b 55 cs) (hO : OwnB w W1.heap.size v E) (hC : Chg (fun k => some k = v.ownBlock) w w') : Arr.Blk w' b 55 cs := blk_typed h hC (typed_own hO (by decide))
theorem fund_at {b o n c k : Nat} {l : List Tre.Fd} {x : Tre.Fd} (h : Funds w (some ⟨b, o, none⟩) n c l) (hx : l[k]? = some x) : w.cell? ⟨b, o + k * 3, none⟩ = some (.string x.name) ∧ w.cell? ⟨b, o + k * 3 + 1, none⟩ = some (.int .i64 x.par) ∧ w.cell? ⟨b, o + k * 3 + 2, none⟩ = some (.int .i64 x.lim) := by
  obtain ⟨hk, e⟩ := List.getElem?_eq_some_iff.1 hx
  have := fund_cells h hk
  rwa [e] at this
end Go.Proofs.Ytpmpigglekgfnaa.Snp
