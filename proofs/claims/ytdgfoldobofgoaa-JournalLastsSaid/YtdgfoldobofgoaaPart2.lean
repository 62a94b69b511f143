/- Common to the claims of this seat, part 2: texts that were written one by one, laid behind one another. -/
import Derived.Deep.CutBlock
import Derived.Laws.ResultCell
import Derived.Scope
import Derived.WalkMore
import Derived.Test.YtdgfoldobofgoaaPart1
/- Journal: what the program's journal is to do, whatever its code; lists of texts in memory. -/
namespace Go.Proofs.Ytdgfoldobofgoaa.Jrn
open Go.RowKit
open Go.Sort
open Kit
open Oct
open Chk
open Frm
open Foot
open Dsk (Sec DS mix mix_at mix_length mix_whole mix_none)
set_option linter.unusedVariables false

/-! ### Lists of texts -/

structure Sv where
  a : Option Addr
  n : Nat
  c : Nat
  l : Bs
def Sv.val (s : Sv) : Value := .slice s.a s.n s.c
def encV (s : Sv) : List Value := [s.val]
theorem encV_len (s : Sv) : (encV s).length = 1 := rfl
theorem encV_one (s : Sv) : ∀ u ∈ encV s, u.oneCell' = true := by
  intro u hu
  simp [encV] at hu
  subst hu; rfl
abbrev SvOk (w : World) (s : Sv) : Prop := Arg w s.a s.n s.c s.l
theorem sv_keep {w w' : World} {s : Sv} (h : SvOk w s) (hb : Below w.heap.size w w') : SvOk w' s := arg_keep h hb
/-- A list of texts that can be read. -/
def ListB (w : World) (v : Value) (ls : List Bs) : Prop := ∃ (a : Option Addr) (c : Nat) (ss : List Sv), v = .slice a ss.length c ∧ ss.length ≤ c ∧ c ≤ maxLen ∧ (a = none → ss.length = 0 ∧ c = 0) ∧ Kit.Row encV 1 w a ss ∧ (∀ s ∈ ss, SvOk w s) ∧ ss.map (·.l) = ls
theorem list_keep {w w' : World} {v : Value} {ls : List Bs} (h : ListB w v ls) (hb : Below w.heap.size w w') : ListB w' v ls := by
  obtain ⟨a, c, ss, h1, h2, h3, h4, h5, h6, h7⟩ := h
  exact ⟨a, c, ss, h1, h2, h3, h4, row_keep encV_len h5 hb, fun s hs => sv_keep (h6 s hs) hb, h7⟩

/-- A text, and a list of texts, that lie in such blocks. -/
def TxtF (w : World) (P : Nat → Prop) (v : Value) (l : Bs) : Prop := ∃ a c, v = .slice a l.length c ∧ Arg w a l.length c l ∧ ∀ q, a = some q → P q.block
def ListF (w : World) (P : Nat → Prop) (v : Value) (ls : List Bs) : Prop := ∃ (a : Option Addr) (c : Nat) (ss : List Sv), v = .slice a ss.length c ∧ ss.length ≤ c ∧ c ≤ maxLen ∧ (a = none → ss.length = 0 ∧ c = 0) ∧ Kit.Row encV 1 w a ss ∧ (∀ s ∈ ss, SvOk w s) ∧ ss.map (·.l) = ls ∧ (∀ q, a = some q → P q.block) ∧ ∀ s ∈ ss, ∀ q, s.a = some q → P q.block
theorem listF_b {w : World} {P : Nat → Prop} {v : Value} {ls : List Bs} (h : ListF w P v ls) : ListB w v ls := by
  obtain ⟨a, c, ss, h1, h2, h3, h4, h5, h6, h7, _⟩ := h
  exact ⟨a, c, ss, h1, h2, h3, h4, h5, h6, h7⟩
theorem row_far {α : Type} {enc : α → List Value} {size : Nat} (hs : ∀ x, (enc x).length = size) {w w' : World} {H P : Nat → Prop} {a : Option Addr} {l : List α} (hC : Chg H w w') (hP : ∀ k, P k → ¬ H k) (h : Kit.Row enc size w a l) (hq : ∀ q, a = some q → P q.block) : Kit.Row enc size w' a l := by
  rcases h with e | ⟨b, o, e, h2⟩
  · exact .inl e
  · subst e
    exact row_chg hs hC (.inr ⟨b, o, rfl, h2⟩) (hP _ (hq _ rfl))
theorem arg_far {w w' : World} {H P : Nat → Prop} {a : Option Addr} {n c : Nat} {l : Bs} (hC : Chg H w w') (hP : ∀ k, P k → ¬ H k) (h : Arg w a n c l) (hq : ∀ q, a = some q → P q.block) : Arg w' a n c l := ⟨h.len, h.cap, h.max, h.nil, row_far encB_len hC hP h.row hq⟩
theorem txt_chg {w w' : World} {H P Q : Nat → Prop} {v : Value} {l : Bs} (h : TxtF w P v l) (hC : Chg H w w') (hP : ∀ k, P k → ¬ H k) (hQ : ∀ k, P k → Q k) : TxtF w' Q v l := by
  obtain ⟨a, c, h1, h2, h3⟩ := h
  exact ⟨a, c, h1, arg_far hC hP h2 h3, fun q hq => hQ _ (h3 q hq)⟩
theorem list_chg {w w' : World} {H P Q : Nat → Prop} {v : Value} {ls : List Bs} (h : ListF w P v ls) (hC : Chg H w w') (hP : ∀ k, P k → ¬ H k) (hQ : ∀ k, P k → Q k) : ListF w' Q v ls := by
  obtain ⟨a, c, ss, h1, h2, h3, h4, h5, h6, h7, h8, h9⟩ := h
  exact ⟨a, c, ss, h1, h2, h3, h4, row_far encV_len hC hP h5 h8, fun s hs => arg_far hC hP (h6 s hs) (h9 s hs), h7, fun q hq => hQ _ (h8 q hq), fun s hs q hq => hQ _ (h9 s hs q hq)⟩

/-! ### The journal -/

structure JOk (j : JS) (n : Nat) : Prop where
  slot : 1 ≤ j.slot ∧ 2 * j.slot < n
  place : j.place ≤ 1
  epoch : j.epoch < 4294967296
  seq : j.seq < 4294967296
  next : 2 * j.slot ≤ j.next ∧ j.next ≤ n

abbrev inI (n : Int) : Prop := -9223372036854775808 ≤ n ∧ n ≤ 9223372036854775807
variable {D : World → (Nat → Prop) → Nat → DS → Prop} {J : World → (Nat → Prop) → Nat → Nat → JS → Prop}
/-- What Open answers. -/
def OpenE (J : World → (Nat → Prop) → Nat → Nat → JS → Prop) (w : World) (p : Nat) (n : Nat) (r : Option (JS × Bs × List Bs)) (e : Ending) (w' : World) : Prop := match r with
  | none => ∃ va vl, e = .returned (.tuple #[.pointer none, va, vl, .int .i64 (n : Nat)]) ∧ NewB w' w.heap.size va [] ∧ ListB w' vl []
  | some (j, b, l) => ∃ pj G va vl, e = .returned (.tuple #[.pointer (some ⟨pj, 0, none⟩), va, vl, .int .i64 (n : Nat)]) ∧ J w' G pj p j ∧ (∀ k, G k → w.heap.size ≤ k ∧ k < w'.heap.size) ∧ TxtF w' (fun k => w.heap.size ≤ k ∧ k < w'.heap.size ∧ ¬ G k) va b ∧ ListF w' (fun k => w.heap.size ≤ k ∧ k < w'.heap.size ∧ ¬ G k) vl l

/-- The disk's checkpoint is where the journal takes it to be. -/
def Seen (j : JS) (s : DS) : Prop := j.down = false → ∃ E Q b, pick s.now j.slot = some (j.place, E, Q, b)
structure JProg (D : World → (Nat → Prop) → Nat → DS → Prop) (J : World → (Nat → Prop) → Nat → Nat → JS → Prop) : Prop where
  chg : ∀ {w w' : World} {F G : Nat → Prop} {pj p : Nat} {j : JS}, J w F pj p j → Chg G w w' → (∀ k, F k → ¬ G k) → J w' F pj p j
  format : ∀ {w : World} {F : Nat → Prop} {p : Nat} {s : DS}, D w F p s → (∀ k, F k → k < w.heap.size) → s.good.length ≤ 100 → ∀ (slot : Int) (aa : Option Addr) (len cap : Nat) (b : Bs), inI slot → Arg w aa len cap b → len ≤ 3000 → (0 < len → ∀ q, aa = some q → ¬ F q.block) →
    Calls Try.prog 8 #[.pointer (some ⟨p, 0, none⟩), .int .i64 slot, .slice aa len cap] w fun e w' => ∃ n s', e = .returned (.int .i64 (n : Nat)) ∧ FormatR s slot b n s' ∧ D w' (More F w w') p s' ∧ Chg F w w'
  formatArg : ∀ {w : World} {F : Nat → Prop} {p : Nat} {s : DS}, D w F p s → ∀ (slot : Int) (aa : Option Addr) (len cap : Nat) (b : Bs), inI slot → Arg w aa len cap b → ¬ partOk s.good.length slot →
    Calls Try.prog 8 #[.pointer (some ⟨p, 0, none⟩), .int .i64 slot, .slice aa len cap] w fun e w' => e = .returned (.int .i64 1) ∧ Below w.heap.size w w'
  formatNil : ∀ (slot : Int) (aa : Option Addr) (len cap : Nat) (b : Bs) (w : World), inI slot → Arg w aa len cap b →
    Calls Try.prog 8 #[.pointer none, .int .i64 slot, .slice aa len cap] w fun e w' => e = .returned (.int .i64 1) ∧ Below w.heap.size w w'
  opens : ∀ {w : World} {F : Nat → Prop} {p : Nat} {s : DS}, D w F p s → (∀ k, F k → k < w.heap.size) → s.good.length ≤ 100 → ∀ (slot : Int), inI slot →
    Calls Try.prog 10 #[.pointer (some ⟨p, 0, none⟩), .int .i64 slot] w fun e w' => ∃ n r, OpenR s slot n r ∧ OpenE J w p n r e w' ∧ Below w.heap.size w w'
  checkpoint : ∀ {w : World} {F G : Nat → Prop} {pj p : Nat} {s : DS} {j : JS}, D w F p s → J w G pj p j → (∀ k, F k → k < w.heap.size) → (∀ k, G k → k < w.heap.size) → (∀ k, F k → ¬ G k) → s.good.length ≤ 100 → JOk j s.good.length → Seen j s → ∀ (aa : Option Addr) (len cap : Nat) (b : Bs), Arg w aa len cap b → len ≤ 3000 → (0 < len → ∀ q, aa = some q → ¬ F q.block ∧ ¬ G q.block) →
    Calls Try.prog 15 #[.pointer (some ⟨pj, 0, none⟩), .slice aa len cap] w fun e w' => ∃ n j' s', e = .returned (.int .i64 (n : Nat)) ∧ CkR j s b n j' s' ∧ D w' (More F w w') p s' ∧ J w' G pj p j' ∧ Chg (fun k => F k ∨ G k) w w'
  append : ∀ {w : World} {F G : Nat → Prop} {pj p : Nat} {s : DS} {j : JS}, D w F p s → J w G pj p j → (∀ k, F k → k < w.heap.size) → (∀ k, G k → k < w.heap.size) → (∀ k, F k → ¬ G k) → s.good.length ≤ 100 → JOk j s.good.length → ∀ (aa : Option Addr) (len cap : Nat) (b : Bs), Arg w aa len cap b → len ≤ 3000 → (0 < len → ∀ q, aa = some q → ¬ F q.block ∧ ¬ G q.block) →
    Calls Try.prog 16 #[.pointer (some ⟨pj, 0, none⟩), .slice aa len cap] w fun e w' => ∃ n j' s', e = .returned (.int .i64 (n : Nat)) ∧ ApR j s b n j' s' ∧ D w' (More F w w') p s' ∧ J w' G pj p j' ∧ Chg (fun k => F k ∨ G k) w w'
  commit : ∀ {w : World} {F G : Nat → Prop} {pj p : Nat} {s : DS} {j : JS}, D w F p s → J w G pj p j → (∀ k, F k → k < w.heap.size) → (∀ k, G k → k < w.heap.size) → (∀ k, F k → ¬ G k) → s.good.length ≤ 100 → JOk j s.good.length →
    Calls Try.prog 14 #[.pointer (some ⟨pj, 0, none⟩)] w fun e w' => ∃ n j' s', e = .returned (.int .i64 (n : Nat)) ∧ CoR j s n j' s' ∧ D w' (More F w w') p s' ∧ J w' G pj p j' ∧ Chg (fun k => F k ∨ G k) w w'
  seq : ∀ {w : World} {G : Nat → Prop} {pj p : Nat} {j : JS}, J w G pj p j → Calls Try.prog 19 #[.pointer (some ⟨pj, 0, none⟩)] w fun e w' => e = .returned (.int .i64 (j.seq : Nat)) ∧ Below w.heap.size w w'
  epoch : ∀ {w : World} {G : Nat → Prop} {pj p : Nat} {j : JS}, J w G pj p j → Calls Try.prog 20 #[.pointer (some ⟨pj, 0, none⟩)] w fun e w' => e = .returned (.int .i64 (j.epoch : Nat)) ∧ Below w.heap.size w w'
  room : ∀ {w : World} {F G : Nat → Prop} {pj p : Nat} {s : DS} {j : JS}, D w F p s → J w G pj p j → s.good.length ≤ 100 → JOk j s.good.length → Calls Try.prog 21 #[.pointer (some ⟨pj, 0, none⟩)] w fun e w' => e = .returned (.int .i64 ((s.good.length - j.next : Nat) : Int)) ∧ Below w.heap.size w w'
  checkpointNil : ∀ (aa : Option Addr) (len cap : Nat) (b : Bs) (w : World), Arg w aa len cap b → Calls Try.prog 15 #[.pointer none, .slice aa len cap] w fun e w' => e = .returned (.int .i64 1) ∧ Below w.heap.size w w'
  appendNil : ∀ (aa : Option Addr) (len cap : Nat) (b : Bs) (w : World), Arg w aa len cap b → Calls Try.prog 16 #[.pointer none, .slice aa len cap] w fun e w' => e = .returned (.int .i64 1) ∧ Below w.heap.size w w'
  commitNil : ∀ (w : World), Calls Try.prog 14 #[.pointer none] w fun e w' => e = .returned (.int .i64 1) ∧ Below w.heap.size w w'
  seqNil : ∀ (w : World), Calls Try.prog 19 #[.pointer none] w fun e w' => e = .returned (.int .i64 0) ∧ Below w.heap.size w w'
  epochNil : ∀ (w : World), Calls Try.prog 20 #[.pointer none] w fun e w' => e = .returned (.int .i64 0) ∧ Below w.heap.size w w'
  roomNil : ∀ (w : World), Calls Try.prog 21 #[.pointer none] w fun e w' => e = .returned (.int .i64 0) ∧ Below w.heap.size w w'

/-! ### A disk and its journal -/

structure Both (D : World → (Nat → Prop) → Nat → DS → Prop) (J : World → (Nat → Prop) → Nat → Nat → JS → Prop) (B : Nat) (w : World) (F G : Nat → Prop) (p pj : Nat) (s : DS) (j : JS) : Prop where
  d : D w F p s
  j : J w G pj p j
  flt : ∀ k, F k → B ≤ k ∧ k < w.heap.size
  glt : ∀ k, G k → B ≤ k ∧ k < w.heap.size
  apart : ∀ k, F k → ¬ G k
variable {B p pj : Nat} {w w' : World} {F G : Nat → Prop} {s s' : DS} {j j' : JS}
theorem both_keep (hD : Dsk.Prog D) (hJ : JProg D J) (h : Both D J B w F G p pj s j) (hb : Below w.heap.size w w') : Both D J B w' F G p pj s j :=
  ⟨hD.chg h.d (new_chg hb (fun _ => False)) (fun _ _ => id), hJ.chg h.j (new_chg hb (fun _ => False)) (fun _ _ => id), fun k hk => ⟨(h.flt k hk).1, Nat.lt_of_lt_of_le (h.flt k hk).2 hb.size⟩, fun k hk => ⟨(h.glt k hk).1, Nat.lt_of_lt_of_le (h.glt k hk).2 hb.size⟩, h.apart⟩
/-- Both do something. -/
theorem both_more (h : Both D J B w F G p pj s j) (hd : D w' (More F w w') p s') (hj : J w' G pj p j') (hC : Chg (fun k => F k ∨ G k) w w') (hB : B ≤ w.heap.size) : Both D J B w' (More F w w') G p pj s' j' ∧ Below B w w' :=
  ⟨⟨hd, hj, fun k hk => ⟨more_ge (fun k hk => (h.flt k hk).1) hB hk, more_lt (fun k hk => (h.flt k hk).2) hC.size hk⟩, fun k hk => ⟨(h.glt k hk).1, Nat.lt_of_lt_of_le (h.glt k hk).2 hC.size⟩, fun k hk => more_apart (fun k hk => (h.glt k hk).2) h.apart hk⟩,
    chg_below hC (fun k hk => hk.elim (fun hk => (h.flt k hk).1) fun hk => (h.glt k hk).1) hB⟩
/-- The disk alone does something. -/
theorem both_disk (hJ : JProg D J) (h : Both D J B w F G p pj s j) (hd : D w' (More F w w') p s') (hC : Chg F w w') (hB : B ≤ w.heap.size) : Both D J B w' (More F w w') G p pj s' j ∧ Below B w w' :=
  both_more h hd (hJ.chg h.j hC fun k hg hf => h.apart k hf hg) (chg_mono hC fun k _ hk => .inl hk) hB
/-- What lies apart from both. -/
theorem both_far {x : Nat} (h : Both D J B w F G p pj s j) (hx : x < B) : ¬ F x ∧ ¬ G x := ⟨fun hf => by have := (h.flt x hf).1; omega, fun hg => by have := (h.glt x hg).1; omega⟩
/-! ### What a call leaves -/

/-- Blocks of neither. -/
def Apt (F G : Nat → Prop) (w : World) (k : Nat) : Prop := ¬ F k ∧ ¬ G k ∧ k < w.heap.size
/-- Behind a call: the disk's blocks may be more, and theirs alone, or new ones, have changed. -/
structure Stp (D : World → (Nat → Prop) → Nat → DS → Prop) (J : World → (Nat → Prop) → Nat → Nat → JS → Prop) (B : Nat) (w : World) (F G : Nat → Prop) (w' : World) (F' : Nat → Prop) (p pj : Nat) (s : DS) (j : JS) : Prop where
  both : Both D J B w' F' G p pj s j
  below : Below B w w'
  chg : Chg (fun k => F k ∨ G k) w w'
  more : ∀ k, F' k → F k ∨ w.heap.size ≤ k
theorem stp_more (h : Both D J B w F G p pj s j) (hd : D w' (More F w w') p s') (hj : J w' G pj p j') (hC : Chg (fun k => F k ∨ G k) w w') (hB : B ≤ w.heap.size) : Stp D J B w F G w' (More F w w') p pj s' j' :=
  ⟨(both_more h hd hj hC hB).1, (both_more h hd hj hC hB).2, hC, fun k hk => hk.imp id fun h => h.1⟩
theorem stp_disk (hJ : JProg D J) (h : Both D J B w F G p pj s j) (hd : D w' (More F w w') p s') (hC : Chg F w w') (hB : B ≤ w.heap.size) : Stp D J B w F G w' (More F w w') p pj s' j :=
  stp_more h hd (hJ.chg h.j hC fun k hg hf => h.apart k hf hg) (chg_mono hC fun k _ hk => .inl hk) hB
theorem stp_apt {F' : Nat → Prop} (h : Stp D J B w F G w' F' p pj s j) {k : Nat} (hk : Apt F G w k) : ¬ (F k ∨ G k) ∧ Apt F' G w' k := by
  obtain ⟨h1, h2, h3⟩ := hk
  exact ⟨fun hh => hh.elim h1 h2, fun hf => (h.more k hf).elim h1 fun h' => by omega, h2, Nat.lt_of_lt_of_le h3 h.chg.size⟩
theorem stp_txt {F' : Nat → Prop} {v : Value} {l : Bs} (h : Stp D J B w F G w' F' p pj s j) (ht : TxtF w (Apt F G w) v l) : TxtF w' (Apt F' G w') v l := txt_chg ht h.chg (fun k hk => (stp_apt h hk).1) fun k hk => (stp_apt h hk).2
theorem stp_list {F' : Nat → Prop} {v : Value} {l : List Bs} (h : Stp D J B w F G w' F' p pj s j) (ht : ListF w (Apt F G w) v l) : ListF w' (Apt F' G w') v l := list_chg ht h.chg (fun k hk => (stp_apt h hk).1) fun k hk => (stp_apt h hk).2
theorem apt_keep (hb : Below w.heap.size w w') {k : Nat} (hk : Apt F G w k) : Apt F G w' k := ⟨hk.1, hk.2.1, Nat.lt_of_lt_of_le hk.2.2 hb.size⟩
theorem txt_keep {v : Value} {l : Bs} (hb : Below w.heap.size w w') (ht : TxtF w (Apt F G w) v l) : TxtF w' (Apt F G w') v l := txt_chg ht (new_chg hb (fun _ => False)) (fun _ _ => id) fun k hk => apt_keep hb hk
theorem step_append (hJ : JProg D J) (h : Both D J B w F G p pj s j) (hB : B ≤ w.heap.size) (hs : s.good.length ≤ 100) (hj : JOk j s.good.length) (aa : Option Addr) (len cap : Nat) (b : Bs) (ha : Arg w aa len cap b) (hl : len ≤ 3000) (hq : 0 < len → ∀ q, aa = some q → ¬ F q.block ∧ ¬ G q.block) :
    Calls Try.prog 16 #[.pointer (some ⟨pj, 0, none⟩), .slice aa len cap] w fun e w' => ∃ n j' s' F', e = .returned (.int .i64 (n : Nat)) ∧ ApR j s b n j' s' ∧ Stp D J B w F G w' F' p pj s' j' := by
  refine (hJ.append h.d h.j (fun k hk => (h.flt k hk).2) (fun k hk => (h.glt k hk).2) h.apart hs hj aa len cap b ha hl hq).mono ?_
  rintro e w' ⟨n, j', s', he, hr, hd, hj, hC⟩
  exact ⟨n, j', s', _, he, hr, stp_more h hd hj hC hB⟩
theorem step_checkpoint (hJ : JProg D J) (h : Both D J B w F G p pj s j) (hB : B ≤ w.heap.size) (hs : s.good.length ≤ 100) (hj : JOk j s.good.length) (hsee : Seen j s) (aa : Option Addr) (len cap : Nat) (b : Bs) (ha : Arg w aa len cap b) (hl : len ≤ 3000) (hq : 0 < len → ∀ q, aa = some q → ¬ F q.block ∧ ¬ G q.block) :
    Calls Try.prog 15 #[.pointer (some ⟨pj, 0, none⟩), .slice aa len cap] w fun e w' => ∃ n j' s' F', e = .returned (.int .i64 (n : Nat)) ∧ CkR j s b n j' s' ∧ Stp D J B w F G w' F' p pj s' j' := by
  refine (hJ.checkpoint h.d h.j (fun k hk => (h.flt k hk).2) (fun k hk => (h.glt k hk).2) h.apart hs hj hsee aa len cap b ha hl hq).mono ?_
  rintro e w' ⟨n, j', s', he, hr, hd, hj, hC⟩
  exact ⟨n, j', s', _, he, hr, stp_more h hd hj hC hB⟩
theorem step_commit (hJ : JProg D J) (h : Both D J B w F G p pj s j) (hB : B ≤ w.heap.size) (hs : s.good.length ≤ 100) (hj : JOk j s.good.length) :
    Calls Try.prog 14 #[.pointer (some ⟨pj, 0, none⟩)] w fun e w' => ∃ n j' s' F', e = .returned (.int .i64 (n : Nat)) ∧ CoR j s n j' s' ∧ Stp D J B w F G w' F' p pj s' j' := by
  refine (hJ.commit h.d h.j (fun k hk => (h.flt k hk).2) (fun k hk => (h.glt k hk).2) h.apart hs hj).mono ?_
  rintro e w' ⟨n, j', s', he, hr, hd, hj, hC⟩
  exact ⟨n, j', s', _, he, hr, stp_more h hd hj hC hB⟩
theorem step_crash (hD : Dsk.Prog D) (hJ : JProg D J) (h : Both D J B w F G p pj s j) (hB : B ≤ w.heap.size) (keep torn cut : Int) (h1 : inI keep) (h2 : inI torn) (h3 : inI cut) :
    Calls Try.prog 11 #[.pointer (some ⟨p, 0, none⟩), .int .i64 keep, .int .i64 torn, .int .i64 cut] w fun e w' => ∃ F', e = .returned (.tuple #[]) ∧ Stp D J B w F G w' F' p pj (s.crash keep torn cut) j := by
  refine (hD.crash h.d (fun k hk => (h.flt k hk).2) keep torn cut h1 h2 h3).mono ?_
  rintro e w' ⟨he, hd, hC⟩
  exact ⟨_, he, stp_disk hJ h hd hC hB⟩
theorem step_fuse (hD : Dsk.Prog D) (hJ : JProg D J) (h : Both D J B w F G p pj s j) (hB : B ≤ w.heap.size) (n : Int) (h1 : inI n) :
    Calls Try.prog 13 #[.pointer (some ⟨p, 0, none⟩), .int .i64 n] w fun e w' => ∃ F', e = .returned (.tuple #[]) ∧ Stp D J B w F G w' F' p pj { s with fuse := Dsk.nf n } j := by
  refine (hD.fuse h.d (fun k hk => (h.flt k hk).2) n h1).mono ?_
  rintro e w' ⟨he, hd, hC⟩
  exact ⟨_, he, stp_disk hJ h hd hC hB⟩
/-- A disk alone: Format. -/
theorem step_format (hD : Dsk.Prog D) (hJ : JProg D J) {B : Nat} {w : World} {F : Nat → Prop} {p : Nat} {s : DS} (h : Dsk.OneF D B w F p s) (hB : B ≤ w.heap.size) (hs : s.good.length ≤ 100) (slot : Int) (hsl : inI slot) (aa : Option Addr) (len cap : Nat) (b : Bs) (ha : Arg w aa len cap b) (hl : len ≤ 3000) (hq : 0 < len → ∀ q, aa = some q → ¬ F q.block) :
    Calls Try.prog 8 #[.pointer (some ⟨p, 0, none⟩), .int .i64 slot, .slice aa len cap] w fun e w' => ∃ n s' F', e = .returned (.int .i64 (n : Nat)) ∧ FormatR s slot b n s' ∧ Dsk.OneF D B w' F' p s' ∧ Below B w w' := by
  refine (hJ.format h.d (fun k hk => (h.lt k hk).2) hs slot aa len cap b hsl ha hl hq).mono ?_
  rintro e w' ⟨n, s', he, hr, hd, hC⟩
  exact ⟨n, s', _, he, hr, Dsk.one_more hD h hd hC hB, Dsk.one_below h hC hB⟩
/-- What was handed in lies apart. -/
theorem arg_lt {W : World} {a : Option Addr} {n c : Nat} {l : Bs} (h : Arg W a n c l) (hn : 0 < n) : ∀ q, a = some q → q.block < W.heap.size := by
  intro q hq
  rcases h.row with e | ⟨b, o, e, h2⟩
  · have := h.len; rw [e] at this; simp at this; omega
  · rw [e] at hq
    injection hq with hq
    subst hq
    have hc := row_cell (.inr ⟨b, o, rfl, h2⟩) (show 0 < l.length by rw [h.len]; exact hn) rfl (i := 0) (by omega)
    exact World.block_lt_of_cell? W _ hc
theorem args_apart {W : World} {a : Option Addr} {n c : Nat} {l : Bs} (h : Arg W a n c l) (hbo : Both D J W.heap.size w F G p pj s j) (hn : 0 < n) : ∀ q, a = some q → ¬ F q.block ∧ ¬ G q.block := fun q hq => both_far hbo (arg_lt h hn q hq)
/-- A disk alone: Open. -/
theorem step_open (hD : Dsk.Prog D) (hJ : JProg D J) {B : Nat} {w : World} {F : Nat → Prop} {p : Nat} {s : DS} (h : Dsk.OneF D B w F p s) (hB : B ≤ w.heap.size) (hs : s.good.length ≤ 100) (slot : Int) (hsl : inI slot) :
    Calls Try.prog 10 #[.pointer (some ⟨p, 0, none⟩), .int .i64 slot] w fun e w' => ∃ n r, OpenR s slot n r ∧ Below w.heap.size w w' ∧ match r with
      | none => ∃ va vl, e = .returned (.tuple #[.pointer none, va, vl, .int .i64 (n : Nat)]) ∧ NewB w' w.heap.size va [] ∧ ListB w' vl []
      | some (j, b, l) => ∃ pj G va vl, e = .returned (.tuple #[.pointer (some ⟨pj, 0, none⟩), va, vl, .int .i64 (n : Nat)]) ∧ Both D J B w' F G p pj s j ∧ (∀ k, G k → w.heap.size ≤ k) ∧ TxtF w' (Apt F G w') va b ∧ ListF w' (Apt F G w') vl l := by
  refine (hJ.opens h.d (fun k hk => (h.lt k hk).2) hs slot hsl).mono ?_
  rintro e w' ⟨n, r, hr, he, hb⟩
  refine ⟨n, r, hr, hb, ?_⟩
  match r, he with
  | none, he => exact he
  | some (j, b, l), he =>
    obtain ⟨pj, G, va, vl, h1, h2, h3, h4, h5⟩ := he
    have hap : ∀ k, w.heap.size ≤ k ∧ k < w'.heap.size ∧ ¬ G k → Apt F G w' k := fun k hk => ⟨fun hf => by have := (h.lt k hf).2; omega, hk.2.2, hk.2.1⟩
    have h0 := Dsk.one_keep hD h hb
    exact ⟨pj, G, va, vl, h1, ⟨h0.d, h2, h0.lt, fun k hk => ⟨Nat.le_trans hB (h3 k hk).1, (h3 k hk).2⟩, fun k hf hg => by have := (h3 k hg).1; have := (h.lt k hf).2; omega⟩, fun k hk => (h3 k hk).1, txt_chg h4 (chg_refl (fun _ => False) _) (fun _ _ => id) hap, list_chg h5 (chg_refl (fun _ => False) _) (fun _ _ => id) hap⟩

/-! ### Without a fuse -/

theorem format_free {slot : Int} {b : Bs} {n : Nat} (h : FormatR s slot b n s') (hf : s.fuse = -1) (hp : partOk s.good.length slot) (hb : b.length ≤ 65535) (hs : (secs b.length : Int) ≤ slot) : n = 0 ∧ s'.good = over s.now 0 (secsB 1 0 b) ∧ s'.now = over s.now 0 (secsB 1 0 b) ∧ s'.fuse = -1 := by
  cases h with
  | arg h => exact absurd hp h
  | big h h1 => omega
  | full h h1 h2 => omega
  | done s' h h1 h2 hs => exact ⟨rfl, hs.good, hs.now, hs.fuse hf⟩
  | down s' h h1 h2 hs => exact absurd hf hs.fuse
theorem open_some {slot : Int} {n p E Q : Nat} {b : Bs} {r : Option (JS × Bs × List Bs)} (h : OpenR s slot n r) (hp : partOk s.good.length slot) (hk : pick s.now slot.toNat = some (p, E, Q, b)) :
    n = 0 ∧ r = some ({ slot := slot.toNat, place := p, epoch := E, seq := Q + (listed s.now slot.toNat E Q).length, next := 2 * slot.toNat + span (listed s.now slot.toNat E Q), opened := false, down := false }, b, listed s.now slot.toNat E Q) := by
  cases h with
  | arg h => exact absurd hp h
  | lost h h1 => rw [h1] at hk; cases hk
  | done p' E' Q' b' h h1 =>
    rw [h1] at hk
    injection hk with hk
    injection hk with e1 hk
    injection hk with e2 hk
    injection hk with e3 e4
    subst e1 e2 e3 e4
    exact ⟨rfl, rfl⟩
theorem ck_free {n : Nat} {b : Bs} (h : CkR j s b n j' s') (hf : s.fuse = -1) (hd : j.down = false) (h1 : b.length ≤ 65535) (h2 : lastE s.now < 4294967295) (h3 : secs b.length ≤ j.slot) :
    n = 0 ∧ j' = { j with epoch := lastE s.now + 1, place := 1 - j.place, next := 2 * j.slot, opened := true } ∧ s'.good = over s.now ((1 - j.place) * j.slot) (secsB (lastE s.now + 1) j.seq b) ∧ s'.now = over s.now ((1 - j.place) * j.slot) (secsB (lastE s.now + 1) j.seq b) ∧ s'.fuse = -1 := by
  cases h with
  | dead h => rw [hd] at h; cases h
  | big h h1 => omega
  | full h h1 h2 => omega
  | done s' h h1 h2 hs => exact ⟨rfl, rfl, hs.good, hs.now, hs.fuse hf⟩
  | down s' h h1 h2 hs => exact absurd hf hs.fuse
theorem ap_free {n : Nat} {b : Bs} (h : ApR j s b n j' s') (hf : s.fuse = -1) (hd : j.down = false) (ho : j.opened = true) (h1 : b.length ≤ 65535) (h2 : j.seq < 4294967295) (h3 : j.next + secs b.length ≤ s.good.length) :
    n = 0 ∧ j' = { j with seq := j.seq + 1, next := j.next + secs b.length } ∧ s'.good = s.good ∧ s'.now = over s.now j.next (secsB j.epoch (j.seq + 1) b) ∧ s'.fuse = -1 := by
  cases h with
  | dead h => rw [hd] at h; cases h
  | closed h h1 => rw [ho] at h1; cases h1
  | big h h1 h2 => omega
  | full h h1 h2 h3 => omega
  | done s' h h1 h2 h3 hs => exact ⟨rfl, rfl, hs.good, hs.now, hs.fuse hf⟩
  | down s' h h1 h2 h3 hs => exact absurd hf hs.fuse
theorem ap_full {n : Nat} {b : Bs} (h : ApR j s b n j' s') (hd : j.down = false) (ho : j.opened = true) (h1 : b.length ≤ 65535) (h2 : j.seq < 4294967295) (h3 : s.good.length < j.next + secs b.length) : n = 5 ∧ j' = j ∧ s' = s := by
  cases h with
  | dead h => rw [hd] at h; cases h
  | closed h h1 => rw [ho] at h1; cases h1
  | big h h1 h2 => omega
  | full h h1 h2 h3 => exact ⟨rfl, rfl, rfl⟩
  | done s' h h1 h2 h3 hs => omega
  | down s' h h1 h2 h3 hs => omega
theorem ap_closed {n : Nat} {b : Bs} (h : ApR j s b n j' s') (hd : j.down = false) (ho : j.opened = false) : n = 9 ∧ j' = j ∧ s' = s := by
  cases h with
  | dead h => rw [hd] at h; cases h
  | closed h h1 => exact ⟨rfl, rfl, rfl⟩
  | big h h1 h2 => rw [ho] at h1; cases h1
  | full h h1 h2 h3 => rw [ho] at h1; cases h1
  | done s' h h1 h2 h3 hs => rw [ho] at h1; cases h1
  | down s' h h1 h2 h3 hs => rw [ho] at h1; cases h1
theorem co_free {n : Nat} (h : CoR j s n j' s') (hf : s.fuse = -1) (hd : j.down = false) (ho : j.opened = true) : n = 0 ∧ j' = j ∧ s'.good = s.now ∧ s'.now = s.now ∧ s'.fuse = -1 := by
  cases h with
  | dead h => rw [hd] at h; cases h
  | closed h h1 => rw [ho] at h1; cases h1
  | done s' h h1 hs => exact ⟨rfl, rfl, hs.good, hs.now, hs.fuse hf⟩
  | down s' h h1 hs hf' => exact absurd hf hf'
end Go.Proofs.Ytdgfoldobofgoaa.Jrn
/- Journal: what holds of a disk of 64 sectors with two places of two each, between the acts; what a crash leaves of it. -/
namespace Go.Proofs.Ytdgfoldobofgoaa.Jrn
open Oct
open Chk
open Frm
open Dsk (Sec DS mix mix_at mix_length mix_whole mix_none)
set_option linter.unusedVariables false

def zero32 : Sec := List.replicate 32 0
abbrev sec (c : List Sec) (i : Nat) : Sec := c.getD i []

/-- A disk on which nothing is cached, and what its journal shows: epoch E, number Q and count C of its checkpoint, records W; t: nothing is greater. -/
structure ClosedD (t p E M Q C : Nat) (W : List Bs) (c : List Sec) : Prop where
  len : c.length = 64
  all32 : ∀ x ∈ c, x.length = 32
  p2 : p < 2
  ck : sec c (2 * p) = ckS E Q C
  z : sec c 1 = zero32 ∧ sec c 3 = zero32
  other : Other E M (Q + W.length) (C + W.length) (sec c (2 * (1 - p)))
  logE : ∀ x ∈ c.drop 4, numK x 24 4 ≤ E
  read : listed c 2 E Q = W
  bd : 1 ≤ E ∧ E ≤ M ∧ M ≤ t ∧ Q + W.length ≤ t ∧ C + W.length ≤ t ∧ t ≤ 61
/-- The same, where the journal is open: records W, K of them for good. -/
structure OpenD (t p E Q C : Nat) (W : List Bs) (K : Nat) (g n : List Sec) : Prop where
  glen : g.length = 64
  nlen : n.length = 64
  g32 : ∀ x ∈ g, x.length = 32
  n32 : ∀ x ∈ n, x.length = 32
  p2 : p < 2
  ck : sec g (2 * p) = ckS E Q C ∧ sec n (2 * p) = ckS E Q C
  z : sec g 1 = zero32 ∧ sec g 3 = zero32 ∧ sec n 1 = zero32 ∧ sec n 3 = zero32
  other : Low E (sec n (2 * (1 - p))) ∧ sec g (2 * (1 - p)) = sec n (2 * (1 - p))
  gE : ∀ x ∈ g.drop 4, numK x 24 4 ≤ E
  nE : ∀ x ∈ n.drop 4, numK x 24 4 ≤ E
  log : LogN E Q K W (g.drop 4) (n.drop 4)
  old : ∀ o ∈ (g.drop 4).drop (span W), Old E o
  same : (g.drop 4).drop (span W) = (n.drop 4).drop (span W)
  bd : 1 ≤ E ∧ E ≤ t ∧ Q + W.length ≤ t ∧ C + W.length ≤ t ∧ t ≤ 61

/-- Whatever a crash leaves: a checkpoint that was written, and some first ones of the records behind it, all that are sure among them. -/
def Safe (t : Nat) (all : List Bs) (sure : Nat) (g n : List Sec) : Prop := ∀ c, Mixed g n c → ∃ p E M Q C W, ClosedD t p E M Q C W c ∧ C + W.length ≤ all.length ∧ sure ≤ C + W.length ∧ W = (all.drop C).take W.length

/-! ### Mixtures -/

theorem sec_at {c : List Sec} {i : Nat} (h : i < c.length) : c[i]? = some (sec c i) := by simp [sec, List.getD, h]
theorem sec_mem {c : List Sec} {i : Nat} (h : i < c.length) : sec c i ∈ c := Dsk.getD_mem h
theorem mixed_sec {g n c : List Sec} (h : Mixed g n c) (hl : g.length = n.length) {i : Nat} (hi : i < g.length) : ∃ m, m ≤ 32 ∧ sec c i = mix m (sec g i) (sec n i) :=
  h.2 i _ _ _ (sec_at hi) (sec_at (by omega)) (sec_at (by rw [h.1]; exact hi))
theorem mixed_32 {g n c : List Sec} (h : Mixed g n c) (hl : g.length = n.length) (hg : ∀ x ∈ g, x.length = 32) (hn : ∀ x ∈ n, x.length = 32) : ∀ x ∈ c, x.length = 32 := by
  intro x hx
  obtain ⟨i, hi, rfl⟩ := List.getElem_of_mem hx
  rw [h.1] at hi
  obtain ⟨m, hm, e⟩ := h.2 i g[i] n[i] c[i] (List.getElem?_eq_getElem hi) (List.getElem?_eq_getElem (by omega)) (List.getElem?_eq_getElem (by rw [h.1]; exact hi))
  rw [e]
  exact mix_length (hg _ (List.getElem_mem _)) (hn _ (List.getElem_mem _)) hm
theorem mixed_drop {g n c : List Sec} (h : Mixed g n c) (a : Nat) : Mixed (g.drop a) (n.drop a) (c.drop a) :=
  ⟨by rw [List.length_drop, List.length_drop, h.1], fun i x y z hx hy hz => by
    rw [List.getElem?_drop] at hx hy hz
    exact h.2 (a + i) x y z hx hy hz⟩
/-- The epoch of a mixture is the one's or the other's. -/
theorem mix_epoch {x y : Sec} {m : Nat} (hx : x.length = 32) (hy : y.length = 32) (hm : m ≤ 32) (h1 : numK x 24 4 < 256) (h2 : numK y 24 4 < 256) : numK (mix m x y) 24 4 = numK x 24 4 ∨ numK (mix m x y) 24 4 = numK y 24 4 := by
  have hg := fun r => mix_getD (r := r) hx hy hm
  by_cases h28 : 28 ≤ m
  · exact .inr (numK_congr 4 fun r hr => by rw [hg, if_pos (by omega)])
  · left
    obtain ⟨x0, x1, x2, x3⟩ := small4 h1
    obtain ⟨y0, y1, y2, y3⟩ := small4 h2
    refine numK_congr 4 fun r hr => ?_
    rw [hg]
    by_cases h3 : r < 3
    · split
      · apply UInt8.toNat.inj
        obtain rfl | rfl | rfl : r = 0 ∨ r = 1 ∨ r = 2 := by omega
        · rw [Nat.add_zero, y0, x0]
        · rw [y1, x1]
        · rw [y2, x2]
      · rfl
    · rw [if_neg (by omega)]
theorem mixed_epochs {g n c : List Sec} {E : Nat} (h : Mixed g n c) (hl : g.length = n.length) (hg : ∀ x ∈ g, x.length = 32) (hn : ∀ x ∈ n, x.length = 32) (hE : E < 256) (h1 : ∀ x ∈ g, numK x 24 4 ≤ E) (h2 : ∀ x ∈ n, numK x 24 4 ≤ E) : ∀ x ∈ c, numK x 24 4 ≤ E := by
  intro x hx
  obtain ⟨i, hi, rfl⟩ := List.getElem_of_mem hx
  have hi' := hi
  rw [h.1] at hi
  obtain ⟨m, hm, e⟩ := h.2 i g[i] n[i] c[i] (List.getElem?_eq_getElem hi) (List.getElem?_eq_getElem (by omega)) (List.getElem?_eq_getElem hi')
  have a1 := h1 g[i] (List.getElem_mem _)
  have a2 := h2 n[i] (List.getElem_mem _)
  rw [e]
  rcases mix_epoch (hg g[i] (List.getElem_mem _)) (hn n[i] (List.getElem_mem _)) hm (Nat.lt_of_le_of_lt a1 hE) (Nat.lt_of_le_of_lt a2 hE) with h3 | h3
  · exact Nat.le_trans (Nat.le_of_eq h3) a1
  · exact Nat.le_trans (Nat.le_of_eq h3) a2

/-! ### What is picked -/

theorem ck_pack (E Q C : Nat) : packB E Q (beB 2 C) = ckS E Q C := by
  unfold packB ckS jk
  rw [beB_length, show secs 2 = 0 + 1 from rfl, packN_sector]; rfl
theorem place_two {c : List Sec} {i : Nat} (h : 2 * i + 1 < c.length) : placeB c 2 i = sec c (2 * i) ++ sec c (2 * i + 1) := by
  unfold placeB
  have e : (c.drop (i * 2)).take 2 = [sec c (2 * i), sec c (2 * i + 1)] := by
    apply List.ext_getElem?
    intro k
    rw [List.getElem?_take]
    split
    · rename_i hk
      rw [List.getElem?_drop]
      obtain rfl | rfl : k = 0 ∨ k = 1 := by omega
      · rw [show i * 2 + 0 = 2 * i by omega, sec_at (by omega)]; rfl
      · rw [show i * 2 + 1 = 2 * i + 1 by omega, sec_at h]; rfl
    · rw [List.getElem?_eq_none (by simp; omega)]
  rw [e]; simp
theorem closed_pick {t p E M Q C : Nat} {W : List Bs} {c : List Sec} (h : ClosedD t p E M Q C W c) : pick c 2 = some (p, E, Q, beB 2 C) := by
  have hl := h.len
  have h0 := place_two (c := c) (i := 0) (by omega)
  have h1 := place_two (c := c) (i := 1) (by omega)
  obtain ⟨b1, b2, b3, b4, b5, b6⟩ := h.bd
  have hck : unpackB (ckS E Q C ++ zero32) = some (E, Q, beB 2 C, 1) := by
    rw [← ck_pack]
    have := unpack_pack (e := E) (q := Q) (b := beB 2 C) zero32 (by omega) (by omega) (by rw [beB_length]; omega)
    rw [this, beB_length]; rfl
  have hp := h.p2
  unfold pick
  obtain rfl | rfl : p = 0 ∨ p = 1 := by omega
  · have e0 : placeB c 2 0 = ckS E Q C ++ zero32 := by rw [h0, h.ck]; show _ ++ sec c 1 = _; rw [h.z.1]
    have e1 : placeB c 2 1 = sec c 2 ++ zero32 := by rw [h1]; show _ ++ sec c 3 = _; rw [h.z.2]
    rw [e0, e1, hck]
    cases hu : unpackB (sec c 2 ++ zero32) with
    | none => rfl
    | some x =>
      obtain ⟨e, q, b, k⟩ := x
      have := other_none h.other hu
      simp only
      rw [if_neg (by omega)]
  · have e0 : placeB c 2 0 = sec c 0 ++ zero32 := by rw [h0]; show _ ++ sec c 1 = _; rw [h.z.1]
    have e1 : placeB c 2 1 = ckS E Q C ++ zero32 := by rw [h1, h.ck]; show _ ++ sec c 3 = _; rw [h.z.2]
    rw [e0, e1, hck]
    cases hu : unpackB (sec c 0 ++ zero32) with
    | none => rfl
    | some x =>
      obtain ⟨e, q, b, k⟩ := x
      have := other_none h.other hu
      simp only
      rw [if_pos (by omega)]

/-! ### Crashes -/

theorem closed_same {t p E M Q C : Nat} {W : List Bs} {g c : List Sec} (h : ClosedD t p E M Q C W g) (hm : Mixed g g c) : ClosedD t p E M Q C W c := by rw [mixed_same hm]; exact h
theorem closed_more {t t' p E M Q C : Nat} {W : List Bs} {c : List Sec} (h : ClosedD t p E M Q C W c) (ht : t ≤ t') (ht' : t' ≤ 61) : ClosedD t' p E M Q C W c :=
  ⟨h.len, h.all32, h.p2, h.ck, h.z, h.other, h.logE, h.read, by obtain ⟨b1, b2, b3, b4, b5, b6⟩ := h.bd; omega⟩
theorem open_more {t t' p E Q C K : Nat} {W : List Bs} {g n : List Sec} (h : OpenD t p E Q C W K g n) (ht : t ≤ t') (ht' : t' ≤ 61) : OpenD t' p E Q C W K g n :=
  ⟨h.glen, h.nlen, h.g32, h.n32, h.p2, h.ck, h.z, h.other, h.gE, h.nE, h.log, h.old, h.same, by obtain ⟨b1, b2, b3, b4, b5⟩ := h.bd; omega⟩
theorem safe_more {t t' sure : Nat} {all more : List Bs} {g n : List Sec} (h : Safe t all sure g n) (ht : t ≤ t') (ht' : t' ≤ 61) : Safe t' (all ++ more) sure g n := by
  intro c hc
  obtain ⟨p, E, M, Q, C, W, h1, h2, h3, h4⟩ := h c hc
  refine ⟨p, E, M, Q, C, W, closed_more h1 ht ht', by rw [List.length_append]; omega, h3, ?_⟩
  rw [List.drop_append_of_le_length (by omega), List.take_append_of_le_length (by rw [List.length_drop]; omega)]
  exact h4
/-- What may be read of a log behind a crash. -/
theorem open_log {t p E Q C K : Nat} {W : List Bs} {g n c : List Sec} (h : OpenD t p E Q C W K g n) (hm : Mixed (g.drop 4) (n.drop 4) (c.drop 4)) (hc : c.length = 64) : ∃ m, K ≤ m ∧ m ≤ W.length ∧ listed c 2 E Q = W.take m := by
  obtain ⟨b1, b2, b3, b4, b5⟩ := h.bd
  have ht := log_crash h.log _ hm
  exact recs_log (by omega) ht (c.length + 1) (by omega)
theorem open_crash {t p E Q C K : Nat} {W : List Bs} {g n c : List Sec} (h : OpenD t p E Q C W K g n) (hm : Mixed g n c) : ∃ m, K ≤ m ∧ m ≤ W.length ∧ ∀ M, E ≤ M → M ≤ t → ClosedD t p E M Q C (W.take m) c := by
  obtain ⟨b1, b2, b3, b4, b5⟩ := h.bd
  have hlen : c.length = 64 := by rw [hm.1, h.glen]
  have hgn : g.length = n.length := by rw [h.glen, h.nlen]
  obtain ⟨m, h1, h2, h3⟩ := open_log h (mixed_drop hm 4) hlen
  have hsame : ∀ i, i < 64 → sec g i = sec n i → sec c i = sec n i := fun i hi e => by
    obtain ⟨k, _, e2⟩ := mixed_sec hm hgn (i := i) (by rw [h.glen]; exact hi)
    rw [e2, e, mix_same]
  have hp := h.p2
  have hml : (W.take m).length = m := by rw [List.length_take]; omega
  refine ⟨m, h1, h2, fun M hM hMt => ⟨hlen, mixed_32 hm hgn h.g32 h.n32, h.p2, ?_, ⟨?_, ?_⟩, ?_, ?_, h3, ?_⟩⟩
  · rw [hsame _ (by omega) (by rw [h.ck.1, h.ck.2]), h.ck.2]
  · rw [hsame 1 (by omega) (by rw [h.z.1, h.z.2.2.1]), h.z.2.2.1]
  · rw [hsame 3 (by omega) (by rw [h.z.2.1, h.z.2.2.2]), h.z.2.2.2]
  · rw [hsame _ (by omega) h.other.2]
    exact .inl h.other.1
  · exact mixed_epochs (mixed_drop hm 4) (by rw [List.length_drop, List.length_drop, hgn]) (fun x hx => h.g32 x (List.mem_of_mem_drop hx)) (fun x hx => h.n32 x (List.mem_of_mem_drop hx)) (by omega) h.gE h.nE
  · rw [hml]; omega
theorem take_drop_all {all W : List Bs} {C m : Nat} (hW : W = all.drop C) (hm : m ≤ W.length) : W.take m = (all.drop C).take (W.take m).length := by
  rw [List.length_take, Nat.min_eq_left hm, hW]
theorem open_safe {t p E Q C K sure : Nat} {W all : List Bs} {g n : List Sec} (h : OpenD t p E Q C W K g n) (hW : W = all.drop C) (hC : C ≤ all.length) (hs : sure ≤ C + K) : Safe t all sure g n := by
  intro c hc
  obtain ⟨m, h1, h2, h3⟩ := open_crash h hc
  obtain ⟨b1, b2, b3, b4, b5⟩ := h.bd
  have hl : W.length = all.length - C := by rw [hW, List.length_drop]
  have hml : (W.take m).length = m := by rw [List.length_take]; omega
  exact ⟨p, E, E, Q, C, W.take m, h3 E (Nat.le_refl _) b2, by omega, by omega, take_drop_all hW h2⟩
theorem closed_safe {t p E M Q C sure : Nat} {W all : List Bs} {c : List Sec} (h : ClosedD t p E M Q C W c) (h1 : C + W.length ≤ all.length) (h2 : sure ≤ C + W.length) (h3 : W = (all.drop C).take W.length) : Safe t all sure c c :=
  fun c' hc => ⟨p, E, M, Q, C, W, closed_same h hc, h1, h2, h3⟩
/-- What is written in part is safe where all of it is. -/
theorem safe_half {t sure : Nat} {all : List Bs} {g n n' full : List Sec} (h : Safe t all sure g full) (hl : n'.length = full.length) (hg : g.length = full.length) (hn : ∀ i : Nat, n'[i]? = n[i]? ∨ n'[i]? = full[i]?) (hs : ∀ i : Nat, n[i]? = full[i]? ∨ n[i]? = g[i]?) : Safe t all sure g n' := by
  intro c hc
  refine h c ⟨hc.1, fun i x y z hx hy hz => ?_⟩
  have hi : i < g.length := (List.getElem?_eq_some_iff.1 hx).1
  have hi' : n'[i]? = some n'[i] := List.getElem?_eq_getElem (by omega)
  obtain ⟨m, hm, e⟩ := hc.2 i x n'[i] z hx hi' hz
  have : n'[i]? = full[i]? ∨ n'[i]? = g[i]? := by
    rcases hn i with h1 | h1
    · rw [h1]; exact hs i
    · exact .inl h1
  rcases this with h1 | h1
  · rw [hi', hy] at h1
    injection h1 with h1
    exact ⟨m, hm, by rw [e, h1]⟩
  · rw [hi', hx] at h1
    injection h1 with h1
    exact ⟨0, by omega, by rw [e, h1, mix_same, mix_none]⟩
end Go.Proofs.Ytdgfoldobofgoaa.Jrn
/- Journal: the acts: a record, a commit, a checkpoint, whole or cut short. -/
namespace Go.Proofs.Ytdgfoldobofgoaa.Jrn
open Oct
open Chk
open Frm
open Dsk (Sec DS mix mix_at mix_length mix_whole mix_none)
set_option linter.unusedVariables false

theorem secsB_two (e q c : Nat) : secsB e q (beB 2 c) = [ckS e q c] := by
  unfold secsB
  rw [beB_length, show secs 2 = 1 from rfl]; rfl
theorem secsB_epochs {e q : Nat} {b : Bs} (he : e < 4294967296) : ∀ x ∈ secsB e q b, numK x 24 4 = e := by
  intro x hx
  unfold secsB at hx
  obtain ⟨j, _, rfl⟩ := List.mem_map.1 hx
  exact secB_epoch he
theorem over_mem {n cs : List Sec} {a : Nat} {x : Sec} (h : x ∈ over n a cs) : x ∈ n ∨ x ∈ cs := by
  unfold over at h
  rcases List.mem_append.1 h with h | h
  · rcases List.mem_append.1 h with h | h
    · exact .inl (List.mem_of_mem_take h)
    · exact .inr h
  · exact .inl (List.mem_of_mem_drop h)
theorem over_sec {n : List Sec} {a i : Nat} {x : Sec} (h : a + 1 ≤ n.length) (hi : i < n.length) : sec (over n a [x]) i = if i = a then x else sec n i := by
  have h1 := over_at (n := n) (a := a) (cs := [x]) (by simpa using h) i
  unfold sec
  rw [List.getD, h1]
  simp only [List.length_singleton]
  by_cases e : i = a
  · subst e
    rw [if_neg (by omega), if_pos (by omega), if_pos rfl, Nat.sub_self]; rfl
  · rw [if_neg e]
    split
    · rw [List.getD]
    · rw [if_neg (by omega), List.getD]
theorem over_drop4 {n : List Sec} {a : Nat} {x : Sec} (h : a + 1 ≤ 4) (hn : 4 ≤ n.length) : (over n a [x]).drop 4 = n.drop 4 := by
  apply List.ext_getElem?
  intro i
  rw [List.getElem?_drop, List.getElem?_drop, over_at (by simp; omega), if_neg (by omega), if_neg (by simp; omega)]
theorem over_drop {n cs : List Sec} {a : Nat} (h : 4 + a + cs.length ≤ n.length) : (over n (4 + a) cs).drop 4 = (n.drop 4).take a ++ cs ++ (n.drop 4).drop (a + cs.length) := by
  unfold over
  rw [List.append_assoc, List.drop_append_of_le_length (by rw [List.length_take]; omega), List.drop_take, show 4 + a - 4 = a by omega, List.drop_drop, List.append_assoc, show 4 + (a + cs.length) = 4 + a + cs.length by omega]
/-- Each sector. -/
theorem in_four {c : List Sec} {x : Sec} (hl : 4 ≤ c.length) (h : x ∈ c) : x = sec c 0 ∨ x = sec c 1 ∨ x = sec c 2 ∨ x = sec c 3 ∨ x ∈ c.drop 4 := by
  obtain ⟨i, hi, rfl⟩ := List.getElem_of_mem h
  have hs : c[i] = sec c i := by unfold sec; rw [Dsk.getD_at hi]
  by_cases h4 : i < 4
  · obtain rfl | rfl | rfl | rfl : i = 0 ∨ i = 1 ∨ i = 2 ∨ i = 3 := by omega
    · exact .inl hs
    · exact .inr (.inl hs)
    · exact .inr (.inr (.inl hs))
    · exact .inr (.inr (.inr (.inl hs)))
  · refine .inr (.inr (.inr (.inr ?_)))
    have : (c.drop 4)[i - 4]? = some c[i] := by rw [List.getElem?_drop, show 4 + (i - 4) = i by omega, List.getElem?_eq_getElem hi]
    exact List.mem_of_getElem? this
theorem zero_epoch : numK zero32 24 4 = 0 := by decide

/-! ### A record -/

theorem open_append {t p E Q C K : Nat} {W : List Bs} {g n : List Sec} (h : OpenD t p E Q C W K g n) (ht : t + 1 ≤ 61) (b : Bs) (hb : b.length < 65536) (hr : 4 + span W + secs b.length ≤ 64) :
    OpenD (t + 1) p E Q C (W ++ [b]) K g (over n (4 + span W) (secsB E (Q + W.length + 1) b)) := by
  obtain ⟨b1, b2, b3, b4, b5⟩ := h.bd
  have hsl := secsB_length E (Q + W.length + 1) b
  have hov : (over n (4 + span W) (secsB E (Q + W.length + 1) b)).length = 64 := by rw [over_length (by rw [hsl, h.nlen]; exact hr), h.nlen]
  have hd := over_drop (n := n) (a := span W) (cs := secsB E (Q + W.length + 1) b) (by rw [hsl, h.nlen]; exact hr)
  rw [hsl] at hd
  have hsp : span (W ++ [b]) = span W + secs b.length := by rw [span_append]; simp [span]
  have hlo : ∀ i, i < 4 → sec (over n (4 + span W) (secsB E (Q + W.length + 1) b)) i = sec n i := fun i hi => by
    unfold sec
    rw [List.getD, over_at (by rw [hsl, h.nlen]; exact hr), if_pos (by omega), List.getD]
  have hp := h.p2
  have hl := log_append h.log b hb (by omega) (by rw [List.length_drop, h.nlen]; omega) h.old h.same
  rw [← hd] at hl
  refine ⟨h.glen, hov, h.g32, fun x hx => ?_, h.p2, ⟨h.ck.1, by rw [hlo _ (by omega)]; exact h.ck.2⟩, ⟨h.z.1, h.z.2.1, by rw [hlo 1 (by omega)]; exact h.z.2.2.1, by rw [hlo 3 (by omega)]; exact h.z.2.2.2⟩, ?_, h.gE, fun x hx => ?_, hl, ?_, ?_, by rw [List.length_append, List.length_singleton]; omega⟩
  · rcases over_mem hx with hx | hx
    · exact h.n32 x hx
    · exact secsB_32 x hx
  · rw [hlo _ (by omega)]; exact h.other
  · rw [hd] at hx
    rcases List.mem_append.1 hx with hx | hx
    · rcases List.mem_append.1 hx with hx | hx
      · exact h.nE x (List.mem_of_mem_take hx)
      · exact Nat.le_of_eq (secsB_epochs (by omega) x hx)
    · exact h.nE x (List.mem_of_mem_drop hx)
  · rw [hsp, ← List.drop_drop]
    exact fun o ho => h.old o (List.mem_of_mem_drop ho)
  · rw [hsp, hd, ← List.drop_drop (l := g.drop 4), h.same, List.drop_drop, List.drop_left' (by rw [List.length_append, List.length_take, List.length_drop, h.nlen, hsl]; omega)]
theorem open_commit {t p E Q C K : Nat} {W : List Bs} {g n : List Sec} (h : OpenD t p E Q C W K g n) : OpenD t p E Q C W W.length n n :=
  ⟨h.nlen, h.nlen, h.n32, h.n32, h.p2, ⟨h.ck.2, h.ck.2⟩, ⟨h.z.2.2.1, h.z.2.2.2, h.z.2.2.1, h.z.2.2.2⟩, ⟨h.other.1, rfl⟩, h.nE, h.nE, log_flush h.log, by rw [← h.same]; exact h.old, rfl, h.bd⟩

/-! ### A checkpoint -/

/-- A new checkpoint in the other place. -/
theorem new_open {t p E Q C e q c : Nat} {n : List Sec} (hl : n.length = 64) (h32 : ∀ x ∈ n, x.length = 32) (hp : p < 2) (hck : sec n (2 * p) = ckS E Q C) (hz : sec n 1 = zero32 ∧ sec n 3 = zero32) (hE : E < e) (hQ : Q < 64) (hlog : ∀ x ∈ n.drop 4, numK x 24 4 ≤ E) (hbd : 1 ≤ e ∧ e ≤ t ∧ q ≤ t ∧ c ≤ t ∧ t ≤ 61) :
    OpenD t (1 - p) e q c [] 0 (over n (2 * (1 - p)) [ckS e q c]) (over n (2 * (1 - p)) [ckS e q c]) := by
  have hov : (over n (2 * (1 - p)) [ckS e q c]).length = 64 := by rw [over_length (by simp; omega), hl]
  have hs : ∀ i, i < 64 → sec (over n (2 * (1 - p)) [ckS e q c]) i = if i = 2 * (1 - p) then ckS e q c else sec n i := fun i hi => over_sec (by omega) (by omega)
  have hd := over_drop4 (n := n) (a := 2 * (1 - p)) (x := ckS e q c) (by omega) (by omega)
  have h1 : sec (over n (2 * (1 - p)) [ckS e q c]) 1 = zero32 := by rw [hs 1 (by omega), if_neg (by omega)]; exact hz.1
  have h3 : sec (over n (2 * (1 - p)) [ckS e q c]) 3 = zero32 := by rw [hs 3 (by omega), if_neg (by omega)]; exact hz.2
  have hk : sec (over n (2 * (1 - p)) [ckS e q c]) (2 * (1 - p)) = ckS e q c := by rw [hs _ (by omega), if_pos rfl]
  have ho : sec (over n (2 * (1 - p)) [ckS e q c]) (2 * (1 - (1 - p))) = ckS E Q C := by rw [hs _ (by omega), if_neg (by omega), show 2 * (1 - (1 - p)) = 2 * p by omega]; exact hck
  have h32' : ∀ x ∈ over n (2 * (1 - p)) [ckS e q c], x.length = 32 := fun x hx => by
    rcases over_mem hx with hx | hx
    · exact h32 x hx
    · simp at hx; rw [hx]; exact jk_length _ _ _ _
  have hE' : ∀ x ∈ (over n (2 * (1 - p)) [ckS e q c]).drop 4, numK x 24 4 ≤ E := by rw [hd]; exact hlog
  have hold : ∀ x ∈ (over n (2 * (1 - p)) [ckS e q c]).drop 4, Old e x := fun x hx => ⟨h32' x (List.mem_of_mem_drop hx), Nat.lt_of_le_of_lt (hE' x hx) (by omega), fun h => by have := hE' x hx; rw [h] at this; omega⟩
  refine ⟨hov, hov, h32', h32', by omega, ⟨hk, hk⟩, ⟨h1, h3, h1, h3⟩, ⟨by rw [ho]; exact ⟨jk_length _ _ _ _, by rw [jk_epoch (by omega)]; exact hE, by rw [jk_seq (by omega)]; exact hQ⟩, rfl⟩, fun x hx => Nat.le_trans (hE' x hx) (by omega), fun x hx => Nat.le_trans (hE' x hx) (by omega), ?_, ?_, rfl, by simp; omega⟩
  · refine .nil q _ fun x hx => ?_
    have hm : x ∈ (over n (2 * (1 - p)) [ckS e q c]).drop 4 := List.mem_of_mem_head? (by rw [hx]; rfl)
    exact ⟨(hold x hm).1, (hold x hm).2.2⟩
  · intro x hx
    exact hold x (List.mem_of_mem_drop hx)
theorem new_closed {t p E Q C e q c : Nat} {n : List Sec} (hl : n.length = 64) (h32 : ∀ x ∈ n, x.length = 32) (hp : p < 2) (hck : sec n (2 * p) = ckS E Q C) (hn : sec n (2 * (1 - p)) = ckS e q c) (hz : sec n 1 = zero32 ∧ sec n 3 = zero32) (hE : E < e) (hQ : Q < 64) (hlog : ∀ x ∈ n.drop 4, numK x 24 4 ≤ E) (hbd : 1 ≤ e ∧ e ≤ t ∧ q ≤ t ∧ c ≤ t ∧ t ≤ 61) :
    ClosedD t (1 - p) e e q c [] n := by
  refine ⟨hl, h32, by omega, hn, hz, ?_, fun x hx => Nat.le_trans (hlog x hx) (by omega), ?_, by simp; omega⟩
  · rw [show 2 * (1 - (1 - p)) = 2 * p by omega, hck]
    exact .inl ⟨jk_length _ _ _ _, by rw [jk_epoch (by omega)]; exact hE, by rw [jk_seq (by omega)]; exact hQ⟩
  · unfold listed
    refine ends_recs (fun x hx => ?_) _
    have hm : x ∈ n.drop 4 := List.mem_of_mem_head? (by rw [show 2 * 2 = 4 from rfl] at hx; rw [hx]; rfl)
    exact ⟨h32 x (List.mem_of_mem_drop hm), fun h => by have := hlog x hm; rw [h] at this; omega⟩

theorem low_not_high {E M Q c : Nat} {X : Sec} (h : Low E X) : ¬ High E M Q c X := by
  rintro ⟨e, Q1, c1, k, m, h1, h2, h3⟩
  have := h.2.1
  rw [(high_stamp h3).2.1] at this
  omega
/-- Of a crash in the midst of a checkpoint: each sector but the other place's. -/
theorem mixed_try {p : Nat} {g n c2 : List Sec} {x : Sec} (hp : p < 2) (hg : g.length = 64) (hn : n.length = 64) (hm : Mixed g (over n (2 * (1 - p)) [x]) c2) : c2.length = 64 ∧ Mixed (g.drop 4) (n.drop 4) (c2.drop 4) ∧ (∃ m, m ≤ 32 ∧ sec c2 (2 * (1 - p)) = mix m (sec g (2 * (1 - p))) x) ∧ (∀ i, i < 64 → i ≠ 2 * (1 - p) → sec g i = sec n i → sec c2 i = sec n i) := by
  have hov : (over n (2 * (1 - p)) [x]).length = 64 := by rw [over_length (by simp; omega), hn]
  have hd := over_drop4 (n := n) (a := 2 * (1 - p)) (x := x) (by omega) (by omega)
  refine ⟨by rw [hm.1, hg], by rw [← hd]; exact mixed_drop hm 4, ?_, fun i hi hne he => ?_⟩
  · obtain ⟨m, h1, h2⟩ := mixed_sec hm (by omega) (i := 2 * (1 - p)) (by omega)
    rw [over_sec (by omega) (by omega), if_pos rfl] at h2
    exact ⟨m, h1, h2⟩
  · obtain ⟨m, h1, h2⟩ := mixed_sec hm (by omega) (i := i) (by omega)
    rw [over_sec (by omega) (by omega), if_neg hne, he, mix_same] at h2
    exact h2

theorem open_last {t p E Q C K : Nat} {W : List Bs} {g n : List Sec} (h : OpenD t p E Q C W K g n) : lastE n = E := by
  have hp := h.p2
  have hn := h.nlen
  obtain ⟨b1, b2, b3, b4, b5⟩ := h.bd
  have hck : numK (sec n (2 * p)) 24 4 = E := by rw [h.ck.2]; exact jk_epoch (by omega)
  have hge := last_ge (sec_mem (c := n) (i := 2 * p) (by omega))
  rw [hck] at hge
  have hall : ∀ x ∈ n, numK x 24 4 ≤ E := fun x hx => by
    have ho := h.other.1.2.1
    have z1 : numK (sec n 1) 24 4 = 0 := by rw [h.z.2.2.1]; exact zero_epoch
    have z3 : numK (sec n 3) 24 4 = 0 := by rw [h.z.2.2.2]; exact zero_epoch
    have e0 : numK (sec n 0) 24 4 ≤ E ∧ numK (sec n 2) 24 4 ≤ E := by
      obtain rfl | rfl : p = 0 ∨ p = 1 := by omega
      · exact ⟨Nat.le_of_eq hck, Nat.le_of_lt ho⟩
      · exact ⟨Nat.le_of_lt ho, Nat.le_of_eq hck⟩
    rcases in_four (by omega) hx with rfl | rfl | rfl | rfl | hx
    · exact e0.1
    · rw [z1]; exact Nat.zero_le _
    · exact e0.2
    · rw [z3]; exact Nat.zero_le _
    · exact h.nE x hx
  rcases last_is n with h0 | ⟨x, hx, e⟩
  · omega
  · have := hall x hx
    rw [e] at this
    omega
theorem open_try {t p E Q C K : Nat} {W : List Bs} {g n : List Sec} (h : OpenD t p E Q C W K g n) (ht : t + 1 ≤ 61) :
    OpenD (t + 1) (1 - p) (E + 1) (Q + W.length) (C + W.length) [] 0 (over n (2 * (1 - p)) [ckS (E + 1) (Q + W.length) (C + W.length)]) (over n (2 * (1 - p)) [ckS (E + 1) (Q + W.length) (C + W.length)]) ∧
    ∀ c2, Mixed g (over n (2 * (1 - p)) [ckS (E + 1) (Q + W.length) (C + W.length)]) c2 → ClosedD (t + 1) (1 - p) (E + 1) (E + 1) (Q + W.length) (C + W.length) [] c2 ∨ ∃ m, K ≤ m ∧ m ≤ W.length ∧ ClosedD (t + 1) p E (E + 1) Q C (W.take m) c2 := by
  obtain ⟨b1, b2, b3, b4, b5⟩ := h.bd
  have hp := h.p2
  refine ⟨new_open h.nlen h.n32 h.p2 h.ck.2 ⟨h.z.2.2.1, h.z.2.2.2⟩ (by omega) (by omega) h.nE (by omega), fun c2 hm => ?_⟩
  obtain ⟨hl, hd, ⟨m, h1, h2⟩, h3⟩ := mixed_try h.p2 h.glen h.nlen hm
  have h32 : ∀ x ∈ c2, x.length = 32 := mixed_32 hm (by rw [over_length (by simp [h.nlen]; omega), h.glen, h.nlen]) h.g32 (fun x hx => by
    rcases over_mem hx with hx | hx
    · exact h.n32 x hx
    · simp at hx; rw [hx]; exact jk_length _ _ _ _)
  have hck : sec c2 (2 * p) = ckS E Q C := by rw [h3 _ (by omega) (by omega) (by rw [h.ck.1, h.ck.2]), h.ck.2]
  have hz : sec c2 1 = zero32 ∧ sec c2 3 = zero32 := ⟨by rw [h3 1 (by omega) (by omega) (by rw [h.z.1, h.z.2.2.1]), h.z.2.2.1], by rw [h3 3 (by omega) (by omega) (by rw [h.z.2.1, h.z.2.2.2]), h.z.2.2.2]⟩
  have hlE : ∀ x ∈ c2.drop 4, numK x 24 4 ≤ E := mixed_epochs hd (by rw [List.length_drop, List.length_drop, h.glen, h.nlen]) (fun x hx => h.g32 x (List.mem_of_mem_drop hx)) (fun x hx => h.n32 x (List.mem_of_mem_drop hx)) (by omega) h.gE h.nE
  obtain ⟨k, k1, k2, k3⟩ := open_log h hd hl
  have hkl : (W.take k).length = k := by rw [List.length_take]; omega
  rw [h.other.2] at h2
  have hlow := h.other.1
  have := other_crash (M := E) (Q := 0) (c := 0) (Q' := Q + W.length) (c' := C + W.length) (e := E + 1) (m := m) (X := sec n (2 * (1 - p))) (.inl hlow) (fun hh => absurd hh (low_not_high hlow)) (by omega) (fun x hx => ⟨by have := hlow.2.1; omega, fun hx2 => by have := hlow.2.1; omega⟩) (by omega) (by omega) (by omega) h1 (Q + k) (C + k) (by omega) (by omega) (fun hh => absurd hh (low_not_high hlow))
  rw [← h2] at this
  rcases this with h4 | h4
  · exact .inl (new_closed hl h32 h.p2 hck h4 hz (by omega) (by omega) hlE (by omega))
  · exact .inr ⟨k, k1, k2, ⟨hl, h32, h.p2, hck, hz, by rw [hkl]; exact h4, hlE, k3, by rw [hkl]; omega⟩⟩

/-- The next epoch of a disk on which nothing is cached. -/
theorem closed_last {t p E M Q C : Nat} {W : List Bs} {c : List Sec} (h : ClosedD t p E M Q C W c) : E ≤ lastE c ∧ lastE c ≤ M ∧ ∀ x, numK (sec c (2 * (1 - p))) 24 4 = x → x ≤ lastE c ∧ (E < x → lastE c = x) := by
  have hp := h.p2
  have hn := h.len
  obtain ⟨b1, b2, b3, b4, b5, b6⟩ := h.bd
  have hck : numK (sec c (2 * p)) 24 4 = E := by rw [h.ck]; exact jk_epoch (by omega)
  have hge := last_ge (sec_mem (c := c) (i := 2 * p) (by omega))
  rw [hck] at hge
  have hgo := last_ge (sec_mem (c := c) (i := 2 * (1 - p)) (by omega))
  have z1 : numK (sec c 1) 24 4 = 0 := by rw [h.z.1]; exact zero_epoch
  have z3 : numK (sec c 3) 24 4 = 0 := by rw [h.z.2]; exact zero_epoch
  have hoe := other_epoch h.other
  have hall : ∀ x ∈ c, numK x 24 4 ≤ E ∨ numK x 24 4 = numK (sec c (2 * (1 - p))) 24 4 := fun x hx => by
    have e0 : (numK (sec c 0) 24 4 ≤ E ∨ numK (sec c 0) 24 4 = numK (sec c (2 * (1 - p))) 24 4) ∧ (numK (sec c 2) 24 4 ≤ E ∨ numK (sec c 2) 24 4 = numK (sec c (2 * (1 - p))) 24 4) := by
      obtain rfl | rfl : p = 0 ∨ p = 1 := by omega
      · exact ⟨.inl (Nat.le_of_eq hck), .inr rfl⟩
      · exact ⟨.inr rfl, .inl (Nat.le_of_eq hck)⟩
    rcases in_four (by omega) hx with rfl | rfl | rfl | rfl | hx
    · exact e0.1
    · left; rw [z1]; exact Nat.zero_le _
    · exact e0.2
    · left; rw [z3]; exact Nat.zero_le _
    · exact .inl (h.logE x hx)
  generalize numK (sec c (2 * (1 - p))) 24 4 = y at *
  have hlast : lastE c ≤ E ∨ lastE c = y := by
    rcases last_is c with h0 | ⟨x, hx, e⟩
    · left; omega
    · rcases hall x hx with h1 | h1
      · left; rw [← e]; exact h1
      · right; rw [← e]; exact h1
  refine ⟨hge, by omega, fun x hx => ?_⟩
  subst hx
  exact ⟨hgo, fun h => by omega⟩
theorem closed_try {t p E M Q C : Nat} {W : List Bs} {c : List Sec} (h : ClosedD t p E M Q C W c) (ht : t + 1 ≤ 61) :
    OpenD (t + 1) (1 - p) (lastE c + 1) (Q + W.length) (C + W.length) [] 0 (over c (2 * (1 - p)) [ckS (lastE c + 1) (Q + W.length) (C + W.length)]) (over c (2 * (1 - p)) [ckS (lastE c + 1) (Q + W.length) (C + W.length)]) ∧
    ∀ c2, Mixed c (over c (2 * (1 - p)) [ckS (lastE c + 1) (Q + W.length) (C + W.length)]) c2 → ClosedD (t + 1) (1 - p) (lastE c + 1) (lastE c + 1) (Q + W.length) (C + W.length) [] c2 ∨ ClosedD (t + 1) p E (lastE c + 1) Q C W c2 := by
  obtain ⟨b1, b2, b3, b4, b5, b6⟩ := h.bd
  have hp := h.p2
  obtain ⟨l1, l2, l3⟩ := closed_last h
  generalize lastE c = e at *
  refine ⟨new_open h.len h.all32 h.p2 h.ck h.z (by omega) (by omega) h.logE (by omega), fun c2 hm => ?_⟩
  obtain ⟨hl, hd, ⟨m, h1, h2⟩, h3⟩ := mixed_try h.p2 h.len h.len hm
  have h32 : ∀ x ∈ c2, x.length = 32 := mixed_32 hm (by rw [over_length (by simp [h.len]; omega)]) h.all32 (fun x hx => by
    rcases over_mem hx with hx | hx
    · exact h.all32 x hx
    · simp at hx; rw [hx]; exact jk_length _ _ _ _)
  have hck : sec c2 (2 * p) = ckS E Q C := by rw [h3 _ (by omega) (by omega) rfl, h.ck]
  have hz : sec c2 1 = zero32 ∧ sec c2 3 = zero32 := ⟨by rw [h3 1 (by omega) (by omega) rfl, h.z.1], by rw [h3 3 (by omega) (by omega) rfl, h.z.2]⟩
  have hdd := mixed_same hd
  have hlE : ∀ x ∈ c2.drop 4, numK x 24 4 ≤ E := by rw [hdd]; exact h.logE
  have hr : listed c2 2 E Q = W := by
    have := h.read
    unfold listed at this ⊢
    rw [show 2 * 2 = 4 from rfl] at this ⊢
    rw [hdd, hl, ← h.len]; exact this
  have := other_crash (Q' := Q + W.length) (c' := C + W.length) (e := e + 1) (m := m) h.other (fun _ => ⟨rfl, rfl⟩) (by omega) (fun x hx => ⟨by have := (l3 x hx).1; omega, fun hx2 => by have := (l3 x hx).2 hx2; omega⟩) (by omega) (by omega) (by omega) h1 (Q + W.length) (C + W.length) (by omega) (by omega) (fun _ => ⟨rfl, rfl⟩)
  rw [← h2] at this
  rcases this with h4 | h4
  · exact .inl (new_closed hl h32 h.p2 hck h4 hz (by omega) (by omega) hlE (by omega))
  · exact .inr ⟨hl, h32, h.p2, hck, hz, h4, hlE, hr, by omega⟩
end Go.Proofs.Ytdgfoldobofgoaa.Jrn
/- Journal: what JournalLasts goes through: all that was written, what is sure, the journal and the disk, act by act. -/
namespace Go.Proofs.Ytdgfoldobofgoaa.Jrn
open Oct
open Chk
open Frm
open Dsk (Sec DS mix mix_at mix_length mix_whole mix_none)
set_option linter.unusedVariables false

def jsOf (p E q x : Nat) (o : Bool) : JS := { slot := 2, place := p, epoch := E, seq := q, next := x, opened := o, down := false }
inductive LI (t : Nat) (all : List Bs) (sure : Nat) (s : DS) : JS → Prop
  | closed (p E M Q C : Nat) (W : List Bs) (h : ClosedD t p E M Q C W s.now) (hs : s.good = s.now) (hW : W = all.drop C) (hC : C ≤ all.length) : LI t all sure s (jsOf p E (Q + W.length) (4 + span W) false)
  | opened (p E Q C K : Nat) (W : List Bs) (h : OpenD t p E Q C W K s.good s.now) (hW : W = all.drop C) (hC : C ≤ all.length) (hs : sure ≤ C + K) : LI t all sure s (jsOf p E (Q + W.length) (4 + span W) true)
  | down (j : JS) (hj : j.down = true) (hs : Safe t all sure s.good s.now) : LI t all sure s j
structure LInv (t : Nat) (all : List Bs) (sure : Nat) (j : JS) (s : DS) : Prop where
  ok : s.Ok
  len : s.good.length = 64
  le : sure ≤ all.length
  tt : t ≤ 61
  inv : LI t all sure s j

theorem linv_safe {t sure : Nat} {all : List Bs} {j : JS} {s : DS} (h : LInv t all sure j s) : Safe t all sure s.good s.now := by
  have hsu := h.le
  cases h.inv with
  | closed p E M Q C W hc hs hW hC =>
    have hl : W.length = all.length - C := by rw [hW, List.length_drop]
    rw [hs]
    exact closed_safe hc (by omega) (by omega) (by rw [hl, hW, List.take_of_length_le (by rw [List.length_drop]; exact Nat.le_refl _)])
  | opened p E Q C K W ho hW hC hs => exact open_safe ho hW hC hs
  | down j hj hs => exact hs
theorem safe_tt {t t' sure : Nat} {all : List Bs} {g n : List Sec} (h : Safe t all sure g n) (ht : t ≤ t') (ht' : t' ≤ 61) : Safe t' all sure g n := by
  have := safe_more (more := []) h ht ht'
  rwa [List.append_nil] at this
theorem linv_more {t t' sure : Nat} {all : List Bs} {j : JS} {s : DS} (h : LInv t all sure j s) (ht : t ≤ t') (ht' : t' ≤ 61) : LInv t' all sure j s := by
  refine ⟨h.ok, h.len, h.le, ht', ?_⟩
  cases h.inv with
  | closed p E M Q C W hc hs hW hC => exact .closed p E M Q C W (closed_more hc ht ht') hs hW hC
  | opened p E Q C K W ho hW hC hs => exact .opened p E Q C K W (open_more ho ht ht') hW hC hs
  | down j hj hs => exact .down j hj (safe_tt hs ht ht')
theorem over_max {n : Nat} {g full : List Sec} (hg : g.length = 64) (hf : full.length = 64) : g.length = full.length := by rw [hg, hf]

/-- A record. -/
theorem linv_append {t sure e : Nat} {all : List Bs} {j j' : JS} {s s' : DS} {b : Bs} (h : LInv t all sure j s) (ht : t + 1 ≤ 61) (hb : b.length ≤ 60) (hr : ApR j s b e j' s') :
    (e = 0 ∨ e = 10) ∧ LInv (t + 1) (all ++ [b]) sure j' s' ∨ (e ≠ 0 ∧ e ≠ 10) ∧ LInv (t + 1) all sure j' s' := by
  have hsu := h.le
  have hal : (all ++ [b]).length = all.length + 1 := by simp
  cases hr with
  | dead hd => exact .inl ⟨.inr rfl, h.ok, h.len, by omega, ht, .down _ hd (safe_more (linv_safe h) (by omega) ht)⟩
  | closed hd ho => exact .inr ⟨⟨by decide, by decide⟩, linv_more h (by omega) ht⟩
  | big hd ho h2 => exact .inr ⟨⟨by decide, by decide⟩, linv_more h (by omega) ht⟩
  | full hd ho h2 h3 => exact .inr ⟨⟨by decide, by decide⟩, linv_more h (by omega) ht⟩
  | done s' hd ho h2 h3 hs =>
    left
    refine ⟨.inl rfl, hs.ok, by rw [hs.good]; exact h.len, by omega, ht, ?_⟩
    cases h.inv with
    | closed p E M Q C W hc hs hW hC => cases ho
    | down j hj hs => rw [hd] at hj; cases hj
    | opened p E Q C K W hop hW hC hsure =>
      rw [h.len] at h3
      have h4 := open_append hop ht b (by omega) h3
      have hsp : span (W ++ [b]) = span W + secs b.length := by rw [span_append]; simp [span]
      have hx := LI.opened (t := t + 1) (all := all ++ [b]) (sure := sure) (s := s') p E Q C K (W ++ [b]) (by rw [hs.good, hs.now]; exact h4) (by rw [List.drop_append_of_le_length hC, hW]) (by omega) hsure
      rw [hsp, List.length_append, List.length_singleton] at hx
      show LI _ _ _ _ (jsOf p E (Q + W.length + 1) (4 + span W + secs b.length) true)
      rw [show Q + W.length + 1 = Q + (W.length + 1) by omega, show 4 + span W + secs b.length = 4 + (span W + secs b.length) by omega]
      exact hx
  | down s' hd ho h2 h3 hs =>
    left
    refine ⟨.inr rfl, hs.ok, by rw [hs.good]; exact h.len, by omega, ht, ?_⟩
    cases h.inv with
    | closed p E M Q C W hc hs hW hC => cases ho
    | down j hj hs => rw [hd] at hj; cases hj
    | opened p E Q C K W hop hW hC hsure =>
      rw [h.len] at h3
      have h4 := open_append hop ht b (by omega) h3
      have h5 := open_safe (all := all ++ [b]) (sure := sure) h4 (by rw [List.drop_append_of_le_length hC, hW]) (by omega) hsure
      refine .down _ rfl ?_
      rw [hs.good]
      have h3' : 4 + span W + (secsB E (Q + W.length + 1) b).length ≤ s.now.length := by rw [secsB_length, hop.nlen]; exact h3
      refine safe_half (n := s.now) h5 (by rw [hs.len, over_length h3']) (by rw [hop.glen, over_length h3', hop.nlen]) hs.now fun i => ?_
      rw [over_at h3']
      by_cases h6 : i < 4 + span W
      · rw [if_pos h6]; exact .inl rfl
      · rw [if_neg h6]
        by_cases h7 : i < 4 + span W + (secsB E (Q + W.length + 1) b).length
        · right
          have hsame := hop.same
          have e1 : s.good[i]? = ((s.good.drop 4).drop (span W))[i - (4 + span W)]? := by rw [List.getElem?_drop, List.getElem?_drop]; congr 1; omega
          have e2 : s.now[i]? = ((s.now.drop 4).drop (span W))[i - (4 + span W)]? := by rw [List.getElem?_drop, List.getElem?_drop]; congr 1; omega
          rw [e1, e2, hsame]
        · rw [if_neg h7]; exact .inl rfl
/-- A commit. -/
theorem linv_commit {t sure e : Nat} {all : List Bs} {j j' : JS} {s s' : DS} (h : LInv t all sure j s) (ht : t + 1 ≤ 61) (hr : CoR j s e j' s') :
    e = 0 ∧ LInv (t + 1) all all.length j' s' ∨ e ≠ 0 ∧ LInv (t + 1) all sure j' s' := by
  cases hr with
  | dead hd => exact .inr ⟨by decide, linv_more h (by omega) ht⟩
  | closed hd ho => exact .inr ⟨by decide, linv_more h (by omega) ht⟩
  | done s' hd ho hs =>
    left
    cases h.inv with
    | closed p E M Q C W hc hs hW hC => cases ho
    | down j hj hs => rw [hd] at hj; cases hj
    | opened p E Q C K W hop hW hC hsure =>
      have hl : W.length = all.length - C := by rw [hW, List.length_drop]
      refine ⟨rfl, hs.ok, by rw [hs.good]; exact hop.nlen, Nat.le_refl _, ht, .opened p E Q C W.length W ?_ hW hC (by omega)⟩
      rw [hs.good, hs.now]
      exact open_more (open_commit hop) (by omega) ht
  | down s' hd ho hs hf =>
    right
    refine ⟨by decide, hs.2.2, by rw [hs.1]; exact h.len, h.le, ht, .down _ rfl ?_⟩
    rw [hs.1, hs.2.1]
    exact safe_tt (linv_safe h) (by omega) ht
/-- A checkpoint. -/
theorem linv_checkpoint {t sure e : Nat} {all : List Bs} {j j' : JS} {s s' : DS} (h : LInv t all sure j s) (ht : t + 1 ≤ 61) (hr : CkR j s (beB 2 all.length) e j' s') :
    e = 0 ∧ LInv (t + 1) all all.length j' s' ∨ e ≠ 0 ∧ LInv (t + 1) all sure j' s' := by
  have hsu := h.le
  have h2l : secs (beB 2 all.length).length = 1 := by rw [beB_length]; rfl
  cases hr with
  | dead hd => exact .inr ⟨by decide, linv_more h (by omega) ht⟩
  | big hd h1 => exact .inr ⟨by decide, linv_more h (by omega) ht⟩
  | full hd h1 h2 => exact .inr ⟨by decide, linv_more h (by omega) ht⟩
  | done s' hd h1 h2 hs =>
    left
    cases h.inv with
    | down j hj hs => rw [hd] at hj; cases hj
    | closed p E M Q C W hc hgn hW hC =>
      have hl : W.length = all.length - C := by rw [hW, List.length_drop]
      have h3 := (closed_try hc ht).1
      have hCl : C + W.length = all.length := by omega
      rw [hCl] at h3
      have hfull : s'.now = over s.now (2 * (1 - p)) [ckS (lastE s.now + 1) (Q + W.length) all.length] := by rw [hs.now, secsB_two]; show over s.now ((1 - p) * 2) _ = _; rw [show (1 - p) * 2 = 2 * (1 - p) by omega]; rfl
      have hg : s'.good = over s.now (2 * (1 - p)) [ckS (lastE s.now + 1) (Q + W.length) all.length] := by rw [hs.good, ← hs.now, hfull]
      refine ⟨rfl, hs.ok, by rw [hg]; exact h3.glen, Nat.le_refl _, ht, ?_⟩
      exact LI.opened (1 - p) (lastE s.now + 1) (Q + W.length) all.length 0 [] (by rw [hg, hfull]; exact h3) (by rw [List.drop_length]) (Nat.le_refl _) (by omega)
    | opened p E Q C K W hop hW hC hsure =>
      have hl : W.length = all.length - C := by rw [hW, List.length_drop]
      have h3 := (open_try hop ht).1
      have hCl : C + W.length = all.length := by omega
      have hE := open_last hop
      rw [hCl, ← hE] at h3
      have hfull : s'.now = over s.now (2 * (1 - p)) [ckS (lastE s.now + 1) (Q + W.length) all.length] := by rw [hs.now, secsB_two]; show over s.now ((1 - p) * 2) _ = _; rw [show (1 - p) * 2 = 2 * (1 - p) by omega]; rfl
      have hg : s'.good = over s.now (2 * (1 - p)) [ckS (lastE s.now + 1) (Q + W.length) all.length] := by rw [hs.good, ← hs.now, hfull]
      refine ⟨rfl, hs.ok, by rw [hg]; exact h3.glen, Nat.le_refl _, ht, ?_⟩
      exact LI.opened (1 - p) (lastE s.now + 1) (Q + W.length) all.length 0 [] (by rw [hg, hfull]; exact h3) (by rw [List.drop_length]) (Nat.le_refl _) (by omega)
  | down s' hd h1 h2 hs =>
    right
    refine ⟨by decide, hs.ok, by rw [hs.good]; exact h.len, h.le, ht, .down _ rfl ?_⟩
    rw [hs.good]
    cases h.inv with
    | down j hj hs => rw [hd] at hj; cases hj
    | closed p E M Q C W hc hgn hW hC =>
      have hl : W.length = all.length - C := by rw [hW, List.length_drop]
      have h3 := (closed_try hc ht).2
      have hp := hc.p2
      have hCl : C + W.length = all.length := by omega
      rw [hCl] at h3
      have hs' := hs.now
      rw [secsB_two] at hs'
      have hov : (over s.now (2 * (1 - p)) [ckS (lastE s.now + 1) (Q + W.length) all.length]).length = 64 := by rw [over_length (by simp [hc.len]; omega), hc.len]
      have hsafe : Safe (t + 1) all sure s.good (over s.now (2 * (1 - p)) [ckS (lastE s.now + 1) (Q + W.length) all.length]) := by
        rw [hgn]
        intro c2 hm
        rcases h3 c2 hm with h4 | h4
        · exact ⟨_, _, _, _, _, _, h4, by simp, by simp; omega, by simp⟩
        · exact ⟨_, _, _, _, _, _, h4, by omega, by omega, by rw [hl, hW, List.take_of_length_le (by rw [List.length_drop]; exact Nat.le_refl _)]⟩
      refine safe_half (n := s.now) hsafe (by rw [hs.len, hc.len, hov]) (by rw [h.len, hov]) (fun i => ?_) (fun i => .inr (by rw [hgn]))
      have := hs' i
      rw [show (1 - (jsOf p E (Q + W.length) (4 + span W) false).place) * (jsOf p E (Q + W.length) (4 + span W) false).slot = 2 * (1 - p) from by show (1 - p) * 2 = _; omega] at this
      exact this
    | opened p E Q C K W hop hW hC hsure =>
      have hl : W.length = all.length - C := by rw [hW, List.length_drop]
      have h3 := (open_try hop ht).2
      have hp := hop.p2
      have hCl : C + W.length = all.length := by omega
      have hE := open_last hop
      rw [hCl, ← hE] at h3
      have hs' := hs.now
      rw [secsB_two] at hs'
      have hov : (over s.now (2 * (1 - p)) [ckS (lastE s.now + 1) (Q + W.length) all.length]).length = 64 := by rw [over_length (by simp [hop.nlen]; omega), hop.nlen]
      have hsafe : Safe (t + 1) all sure s.good (over s.now (2 * (1 - p)) [ckS (lastE s.now + 1) (Q + W.length) all.length]) := by
        intro c2 hm
        rcases h3 c2 hm with h4 | ⟨m, m1, m2, h4⟩
        · exact ⟨_, _, _, _, _, _, h4, by simp, by simp; omega, by simp⟩
        · have hml : (W.take m).length = m := by rw [List.length_take]; omega
          exact ⟨_, _, _, _, _, _, h4, by omega, by omega, take_drop_all hW m2⟩
      refine safe_half (n := s.now) hsafe (by rw [hs.len, hop.nlen, hov]) (by rw [h.len, hov]) (fun i => ?_) (fun i => ?_)
      · have := hs' i
        rw [show (1 - (jsOf p E (Q + W.length) (4 + span W) true).place) * (jsOf p E (Q + W.length) (4 + span W) true).slot = 2 * (1 - p) from by show (1 - p) * 2 = _; omega] at this
        exact this
      · rw [over_at (by simp [hop.nlen]; omega)]
        by_cases h6 : i < 2 * (1 - p)
        · rw [if_pos h6]; exact .inl rfl
        · rw [if_neg h6]
          by_cases h7 : i < 2 * (1 - p) + [ckS (lastE s.now + 1) (Q + W.length) all.length].length
          · right
            simp only [List.length_singleton] at h7
            obtain rfl : i = 2 * (1 - p) := by omega
            rw [sec_at (by rw [hop.nlen]; omega), sec_at (by rw [hop.glen]; omega), hop.other.2]
          · rw [if_neg h7]; exact .inl rfl
/-- A fuse. -/
theorem linv_fuse {t sure : Nat} {all : List Bs} {j : JS} {s s' : DS} (h : LInv t all sure j s) (hg : s'.good = s.good) (hn : s'.now = s.now) (ok : s'.Ok) : LInv t all sure j s' := by
  refine ⟨ok, by rw [hg]; exact h.len, h.le, h.tt, ?_⟩
  cases h.inv with
  | closed p E M Q C W hc hs hW hC => exact .closed p E M Q C W (by rw [hn]; exact hc) (by rw [hg, hn]; exact hs) hW hC
  | opened p E Q C K W ho hW hC hs => exact .opened p E Q C K W (by rw [hg, hn]; exact ho) hW hC hs
  | down j hj hs => exact .down j hj (by rw [hg, hn]; exact hs)

theorem crash_mixed {s : DS} (ok : s.Ok) (keep torn cut : Int) : Mixed s.good s.now (s.crash keep torn cut).good := by
  refine ⟨Dsk.crash_length s keep torn cut, fun i x y z hx hy hz => ?_⟩
  have hi := (List.getElem?_eq_some_iff.1 hx).1
  obtain ⟨m, h1, h2, _⟩ := Dsk.crash_at ok keep torn cut hi
  refine ⟨m, h1, ?_⟩
  have gx : s.good.getD i [] = x := by simp [List.getD, hx]
  have gy : s.now.getD i [] = y := by simp [List.getD, hy]
  have gz : (s.crash keep torn cut).good.getD i [] = z := by simp [List.getD, hz]
  rw [gx, gy, gz] at h2
  exact h2
theorem all_take {all W : List Bs} {C : Nat} (h1 : C + W.length ≤ all.length) (h : W = (all.drop C).take W.length) : W = (all.take (C + W.length)).drop C := by
  rw [List.drop_take, show C + W.length - C = W.length by omega]; exact h
/-- A crash, and a new opening. -/
theorem linv_crash {t sure e : Nat} {all : List Bs} {j : JS} {s : DS} {r : Option (JS × Bs × List Bs)} (h : LInv t all sure j s) (keep torn cut : Int) (hr : OpenR (s.crash keep torn cut) 2 e r) :
    ∃ j' C l, e = 0 ∧ r = some (j', beB 2 C, l) ∧ C + l.length ≤ all.length ∧ sure ≤ C + l.length ∧ C < 256 ∧ l = (all.drop C).take l.length ∧ LInv t (all.take (C + l.length)) (C + l.length) j' (s.crash keep torn cut) := by
  have hn : (s.crash keep torn cut).now = (s.crash keep torn cut).good := rfl
  have hlen : (s.crash keep torn cut).good.length = 64 := by rw [Dsk.crash_length, h.len]
  obtain ⟨p, E, M, Q, C, W, h1, h2, h3, h4⟩ := linv_safe h _ (crash_mixed h.ok keep torn cut)
  have hpk := closed_pick h1
  have hpo : partOk (s.crash keep torn cut).good.length 2 := by rw [hlen]; exact ⟨by omega, by omega⟩
  obtain ⟨b1, b2, b3, b4, b5, b6⟩ := h1.bd
  cases hr with
  | arg hno => exact absurd hpo hno
  | lost hp hn1 =>
    rw [show (2 : Int).toNat = 2 from rfl, hn, hpk] at hn1
    cases hn1
  | done p' E' Q' b hp hn1 =>
    rw [show (2 : Int).toNat = 2 from rfl, hn, hpk] at hn1
    injection hn1 with hn1
    injection hn1 with e1 hn1
    injection hn1 with e2 hn1
    injection hn1 with e3 e4
    subst e1 e2 e3 e4
    have hrd : listed (s.crash keep torn cut).now 2 E Q = W := h1.read
    have hat : (all.take (C + W.length)).length = C + W.length := by rw [List.length_take]; omega
    refine ⟨jsOf p E (Q + W.length) (4 + span W) false, C, W, rfl, ?_, h2, h3, by omega, h4, Dsk.crash_ok h.ok _ _ _, hlen, by omega, h.tt, ?_⟩
    · rw [show (2 : Int).toNat = 2 from rfl, hrd]; rfl
    · exact .closed p E M Q C W (by rw [hn]; exact h1) rfl (all_take h2 h4) (by omega)

/-- The first checkpoint. -/
theorem linv_first {e e' : Nat} {s' : DS} {r : Option (JS × Bs × List Bs)} (hf : FormatR (DS.new 64) 2 (beB 2 0) e s') (ho : OpenR s' 2 e' r) : e = 0 ∧ e' = 0 ∧ ∃ j, r = some (j, beB 2 0, []) ∧ LInv 1 [] 0 j s' := by
  have hnew : (DS.new 64).good = List.replicate 64 zero32 := rfl
  have hnow : (DS.new 64).now = List.replicate 64 zero32 := rfl
  have h2l : secs (beB 2 0).length = 1 := by rw [beB_length]; rfl
  cases hf with
  | arg h => exact absurd ⟨by omega, by rw [hnew]; simp⟩ h
  | big h h1 => rw [beB_length] at h1; omega
  | full h h1 h2 => rw [h2l] at h2; omega
  | down s' h h1 h2 hs => exact absurd rfl hs.fuse
  | done s' h h1 h2 hs =>
    have hg : s'.good = over (List.replicate 64 zero32) 0 [ckS 1 0 0] := by rw [hs.good, hnow, secsB_two]
    have hn : s'.now = s'.good := by rw [hs.now, hs.good]
    have hlen : s'.good.length = 64 := by rw [hg, over_length (by simp)]; simp
    have hsec : ∀ i, i < 64 → sec s'.good i = if i = 0 then ckS 1 0 0 else zero32 := fun i hi => by
      rw [hg, over_sec (by simp) (by simpa using hi)]
      split
      · rfl
      · unfold sec
        rw [Dsk.getD_at (by simpa using hi), List.getElem_replicate]
    have h32 : ∀ x ∈ s'.good, x.length = 32 := fun x hx => by
      rw [hg] at hx
      rcases over_mem hx with hx | hx
      · rw [(List.mem_replicate.1 hx).2]; rfl
      · simp at hx; rw [hx]; exact jk_length _ _ _ _
    have hd4 : s'.good.drop 4 = List.replicate 60 zero32 := by rw [hg, over_drop4 (by omega) (by simp), List.drop_replicate]
    have hc : ClosedD 1 0 1 1 0 0 [] s'.now := by
      rw [hn]
      refine ⟨hlen, h32, by omega, by rw [hsec _ (by omega)]; rfl, ⟨by rw [hsec 1 (by omega), if_neg (by omega)], by rw [hsec 3 (by omega), if_neg (by omega)]⟩, ?_, ?_, ?_, by simp⟩
      · rw [hsec _ (by omega), if_neg (by omega)]
        exact .inl ⟨rfl, by rw [zero_epoch]; omega, by decide⟩
      · intro x hx
        rw [hd4] at hx
        rw [(List.mem_replicate.1 hx).2, zero_epoch]; omega
      · unfold listed
        refine ends_recs (fun x hx => ?_) _
        rw [show 2 * 2 = 4 from rfl, hd4] at hx
        have hm := List.mem_of_mem_head? (by rw [hx]; rfl : x ∈ (List.replicate 60 zero32).head?)
        rw [(List.mem_replicate.1 hm).2]
        exact ⟨rfl, by rw [zero_epoch]; omega⟩
    have hpk := closed_pick hc
    refine ⟨rfl, ?_⟩
    cases ho with
    | arg h => exact absurd ⟨by omega, by rw [hlen]; omega⟩ h
    | lost h h1 => rw [show (2 : Int).toNat = 2 from rfl, hpk] at h1; cases h1
    | done p' E' Q' b hp hn1 =>
      rw [show (2 : Int).toNat = 2 from rfl, hpk] at hn1
      injection hn1 with hn1
      injection hn1 with e1 hn1
      injection hn1 with e2 hn1
      injection hn1 with e3 e4
      subst e1 e2 e3 e4
      have hrd : listed s'.now 2 1 0 = [] := hc.read
      refine ⟨rfl, jsOf 0 1 0 4 false, ?_, hs.ok, hlen, Nat.le_refl _, by omega, ?_⟩
      · rw [show (2 : Int).toNat = 2 from rfl, hrd]; rfl
      · exact LI.closed 0 1 1 0 0 [] hc hn.symm rfl (Nat.le_refl _)
end Go.Proofs.Ytdgfoldobofgoaa.Jrn
/- Journal: what the laws share: acts as arguments, bytes cut short, a count, two lists of texts. -/
namespace Go.Proofs.Ytdgfoldobofgoaa.Jrn
open Go.RowKit
open Go.Sort
open Kit
open Oct
open Chk
open Frm
open Foot
open Dsk (Sec DS mix mix_at mix_length mix_whole mix_none)
set_option linter.unusedVariables false

/-! ### Arguments -/

structure Ac where
  d : UInt8
  b : Sv
  keep : Int
  torn : Int
  cut : Int
def encA (x : Ac) : List Value := [.int .u8 (x.d.toNat : Int), x.b.val, .int .i64 x.keep, .int .i64 x.torn, .int .i64 x.cut]
theorem encA_len (x : Ac) : (encA x).length = 5 := rfl
def Ac.ok (w : World) (x : Ac) : Prop := SvOk w x.b ∧ inI x.keep ∧ inI x.torn ∧ inI x.cut
def RAc (w : World) (cs : List Value) (x : Ac) : Prop := cs = encA x ∧ x.ok w
theorem cells_act : Try.prog.cellsOf 34 = 5 := by kernel_rfl
theorem cells_int : Try.prog.cellsOf 3 = 1 := by kernel_rfl
theorem cells_sl : Try.prog.cellsOf 27 = 1 := by kernel_rfl
theorem i64_wf {n : Int} (h : (Lit.int .i64 n).wf = true) : inI n := by
  simp [Lit.wf, IntKind.min, IntKind.max, IntKind.signed, IntKind.bits] at h
  exact h
set_option maxRecDepth 100000 in
theorem opens_act {w : World} : Opn.Opens Try.prog w 34 (RAc w) := by
  refine Opn.opens_struct Try.underlying34 fun cs hlen hf => ?_
  rw [cells_act] at hlen
  match cs, hlen with
  | [c0, c1, c2, c3, c4], _ =>
    obtain ⟨d, h0⟩ := hf 0 _ rfl _ _ opens_byte
    obtain ⟨l, h1⟩ := hf 1 _ rfl _ _ opens_bytes
    obtain ⟨k, h2, w2⟩ := hf 2 _ rfl _ _ (Opn.opens_int Try.underlying3)
    obtain ⟨t, h3, w3⟩ := hf 3 _ rfl _ _ (Opn.opens_int Try.underlying3)
    obtain ⟨u, h4, w4⟩ := hf 4 _ rfl _ _ (Opn.opens_int Try.underlying3)
    obtain ⟨a', n', c', e', g1, g2, g3, g4, g5⟩ := h1
    unfold RByte encB at h0
    simp [cells_int, cells_u8, cells_sl] at h0 e' h2 h3 h4
    subst h0 e' h2 h3 h4
    exact ⟨⟨d, ⟨a', n', c', l⟩, k, t, u⟩, rfl, ⟨g1, g2, g3, g4, Kit.row_of_cells (fun _ _ h => h) g5⟩, i64_wf w2, i64_wf w3, i64_wf w4⟩
theorem opens_acts {w : World} : Opn.Opens Try.prog w 22 (Opn.RSlice (RAc w) 5 w) := Opn.opens_slice Try.underlying22 cells_act (by omega) opens_act
theorem acts_arg {w : World} {a : Option Addr} {len cap : Nat} {l : List Ac} (h : Opn.RSlice (RAc w) 5 w [.slice a len cap] l) : l.length = len ∧ len ≤ cap ∧ cap ≤ maxLen ∧ (a = none → len = 0 ∧ cap = 0) ∧ Kit.Row encA 5 w a l ∧ ∀ x ∈ l, x.ok w := by
  obtain ⟨a', len', cap', he, hl, hc, hm, hn, hcs⟩ := h
  simp at he
  obtain ⟨rfl, rfl, rfl⟩ := he
  exact ⟨hl, hc, hm, hn, Kit.row_of_cells (fun _ _ h => h.1) hcs, Kit.all_of_cells (fun _ _ h => h.2) hcs⟩
theorem ac_keep {w w' : World} {x : Ac} (h : x.ok w) (hb : Below w.heap.size w w') : x.ok w' := ⟨sv_keep h.1 hb, h.2⟩

/-! ### Bytes cut short -/

def cutS (m : Nat) (s : Sv) : Sv := ⟨s.a, (s.l.take m).length, s.c, s.l.take m⟩
theorem cutS_ok {w : World} {s : Sv} (h : SvOk w s) (m : Nat) : SvOk w (cutS m s) := by
  have h1 := arg_take h (min m s.l.length) (by have := h.len; omega)
  have e : s.l.take (min m s.l.length) = s.l.take m := by
    rcases Nat.le_total m s.l.length with h2 | h2
    · rw [Nat.min_eq_left h2]
    · rw [Nat.min_eq_right h2, List.take_of_length_le h2, List.take_of_length_le (Nat.le_refl _)]
  rw [e] at h1
  have e2 : min m s.l.length = (s.l.take m).length := by rw [List.length_take]
  rw [e2] at h1
  exact h1
theorem cutS_le (m : Nat) (s : Sv) : (cutS m s).n ≤ m := by show (s.l.take m).length ≤ m; rw [List.length_take]; omega
set_option maxHeartbeats 1000000 in
theorem short_any (s : Sv) (m : Nat) (hm : m ≤ 1000) (w : World) (h : SvOk w s) :
    Calls Try.prog 17 #[s.val, .int .i64 (m : Nat)] w fun e w' => e = .returned (cutS m s).val ∧ w = w' := by
  obtain ⟨a, n, c, l⟩ := s
  obtain ⟨hl, hc, hcm, _, _⟩ := h
  simp only [Sv.val, cutS] at *
  unfold maxLen at hcm
  subst hl
  by_cases h : l.length ≤ m
  · have E := Lib.hid (show (l.take m).length = l.length by rw [List.length_take]; omega)
    go_enter Try.func17, Try.ntmps17
    go_wp2
    go_ret
    refine ⟨?_, rfl⟩
    rw [E.out]; rfl
  · have E := Lib.hid (show (l.take m).length = m by rw [List.length_take]; omega)
    have hlt : (m : Int) < l.length := by omega
    go_enter Try.func17, Try.ntmps17
    go_wp2
    go_ret
    refine ⟨?_, rfl⟩
    rw [E.out]
    first | rfl | (simp; try omega)

/-! ### A count -/

set_option maxHeartbeats 1000000 in
theorem count_any (n : Nat) (hn : n < 60000) (w : World) :
    Calls Try.prog 9 #[.int .i64 (n : Nat)] w fun e w' => e = .returned (.slice (some ⟨w.heap.size, 0, none⟩) 2 2) ∧ RowB w' (some ⟨w.heap.size, 0, none⟩) (beB 2 n) ∧ Below w.heap.size w w' := by
  have h0 : ((n : Int) / 256) % 256 = ((UInt8.ofNat (n / 256 ^ 1)).toNat : Int) := by rw [u8_of, Nat.pow_one]; omega
  have h1 : ((n : Int) % 256) % 256 = ((UInt8.ofNat (n / 256 ^ 0)).toNat : Int) := by rw [u8_of, Nat.pow_zero, Nat.div_one]; omega
  have HB := Lib.hid (And.intro h0 h1)
  clear h0 h1
  go_enter Try.func9, Try.ntmps9
  go_wp2
  go_ret
  refine ⟨rfl, ?_, below_alloc w _⟩
  refine row_two w (b := UInt8.ofNat (n / 256 ^ 1)) (b' := UInt8.ofNat (n / 256 ^ 0)) ?_ ?_
  · rw [← HB.out.1]; first | rfl | (congr 1; omega)
  · rw [← HB.out.2]; first | rfl | (congr 1; omega)
end Go.Proofs.Ytdgfoldobofgoaa.Jrn
/- Journal: the laws' fixed fact, over any journal that does as it should. -/
namespace Go.Proofs.Ytdgfoldobofgoaa.Jrn
open Go.RowKit
open Go.Sort
open Kit
open Oct
open Chk
open Frm
open Foot
open Dsk (Sec DS mix mix_at mix_length mix_whole mix_none)
set_option linter.unusedVariables false
variable {D : World → (Nat → Prop) → Nat → DS → Prop} {J : World → (Nat → Prop) → Nat → Nat → JS → Prop}

def firstB : Bs := [102, 105, 114, 115, 116]
def secondB : Bs := [115, 101, 99, 111, 110, 100]
def aw0 : List Sec := List.replicate 20 (List.replicate 32 0)
def aw1 : List Sec := over aw0 0 (secsB 1 0 firstB)
def aw2 : List Sec := over aw1 2 (secsB 2 0 secondB)
def aw3 : List Sec := over aw2 4 (secsB 2 1 [97])
def aw4 : List Sec := over aw3 5 (secsB 2 2 [98])
theorem aw1_pick : pick aw1 2 = some (0, 1, 0, firstB) := by decide +kernel
theorem aw1_list : listed aw1 2 1 0 = [] := by decide +kernel
theorem aw1_last : lastE aw1 = 1 := by decide +kernel
theorem aw4_pick : pick aw4 2 = some (1, 2, 0, secondB) := by decide +kernel
theorem aw4_list : listed aw4 2 2 0 = [[97], [98]] := by decide +kernel
theorem aw_len : aw1.length = 20 ∧ aw2.length = 20 ∧ aw4.length = 20 := by decide +kernel
theorem settle_none (now : List Sec) (order : List Nat) (g : List Sec) : ∀ n, n ≤ order.length → Dsk.settle 0 (-1) 0 now order n g = g
  | 0, _ => rfl
  | n + 1, h => by
    simp only [Dsk.settle]
    rw [settle_none now order g n (by omega)]
    have hm : Dsk.many 0 (-1) 0 n = 0 := by
      unfold Dsk.many
      rw [if_neg (by omega), if_neg]
      intro h
      have := h.2
      simp [Dsk.bitOf] at this
    rw [hm]
    generalize order.getD n 0 = i
    have : mix 0 (g.getD i []) (now.getD i []) = g.getD i [] := by simp [mix]
    rw [this]
    refine List.ext_getElem? fun k => ?_
    rw [List.getElem?_set]
    split
    · rename_i e
      subst e
      split
      · rename_i h; simp [List.getD, h]
      · rename_i h; rw [List.getElem?_eq_none (by omega)]
    · rfl
theorem crash_none (s : DS) : (s.crash 0 (-1) 0).good = s.good := settle_none _ _ _ _ (Nat.le_refl _)

/-! ### Constants handed in -/

variable {B p pj : Nat} {w w' : World} {F G : Nat → Prop} {s s' : DS} {j j' : JS}
theorem arg_const (w : World) (l : Bs) {n : Nat} (C : Array Value) (fr : Nat × Nat) (hC : C.toList = cellsB l) (hn : l.length = n) (hl : n ≤ 1000) : Arg (w.alloc (.cells C 5 fr)) (some ⟨w.heap.size, 0, none⟩) n n l :=
  ⟨hn, Nat.le_refl _, by unfold maxLen; omega, (fun h => by cases h), row_mark w C _ fr l hC⟩
theorem stp_back {w0 : World} {F' : Nat → Prop} (hb : Below w.heap.size w w0) (hB : B ≤ w.heap.size) (h : Stp D J B w0 F G w' F' p pj s j) : Stp D J B w F G w' F' p pj s j :=
  ⟨h.both, (hb.mono hB).trans h.below, chg_trans (new_chg hb _) h.chg (fun _ => .inl), fun k hk => (h.more k hk).imp id fun h' => Nat.le_trans hb.size h'⟩
theorem format_const (hD : Dsk.Prog D) (hJ : JProg D J) (h : Dsk.OneF D B w F p s) (hB : B ≤ w.heap.size) (hs : s.good.length ≤ 100) (slot : Int) (hsl : inI slot) (l : Bs) (n : Nat) (C : Array Value) (fr : Nat × Nat) (hC : C.toList = cellsB l) (hn : l.length = n) (hl : n ≤ 1000) :
    Calls Try.prog 8 #[.pointer (some ⟨p, 0, none⟩), .int .i64 slot, .slice (some ⟨w.heap.size, 0, none⟩) n n] (w.alloc (.cells C 5 fr)) fun e w' => ∃ n s' F', e = .returned (.int .i64 (n : Nat)) ∧ FormatR s slot l n s' ∧ Dsk.OneF D B w' F' p s' ∧ Below B w w' := by
  have hb := below_alloc w (.cells C 5 fr)
  have h1 := Dsk.one_keep hD h hb
  refine (hJ.format h1.d (fun k hk => (h1.lt k hk).2) hs slot _ n n l hsl (arg_const w l C fr hC hn hl) (by omega) (fun _ q hq hf => ?_)).mono ?_
  · injection hq with hq
    subst hq
    have := (h.lt _ hf).2
    exact absurd this (Nat.lt_irrefl _)
  · rintro e w' ⟨n, s', he, hr, hd, hC⟩
    have hB' : B ≤ (w.alloc (.cells C 5 fr)).heap.size := Nat.le_trans hB hb.size
    exact ⟨n, s', _, he, hr, Dsk.one_more hD h1 hd hC hB', (hb.mono hB).trans (Dsk.one_below h1 hC hB')⟩
theorem far_const (h : Both D J B w F G p pj s j) (q : Addr) (hq : some (⟨w.heap.size, 0, none⟩ : Addr) = some q) : ¬ F q.block ∧ ¬ G q.block := by
  injection hq with hq
  subst hq
  exact ⟨fun hf => absurd (h.flt _ hf).2 (Nat.lt_irrefl _), fun hg => absurd (h.glt _ hg).2 (Nat.lt_irrefl _)⟩
theorem append_const (hD : Dsk.Prog D) (hJ : JProg D J) (h : Both D J B w F G p pj s j) (hB : B ≤ w.heap.size) (hs : s.good.length ≤ 100) (hj : JOk j s.good.length) (l : Bs) (n : Nat) (C : Array Value) (fr : Nat × Nat) (hC : C.toList = cellsB l) (hn : l.length = n) (hl : n ≤ 1000) :
    Calls Try.prog 16 #[.pointer (some ⟨pj, 0, none⟩), .slice (some ⟨w.heap.size, 0, none⟩) n n] (w.alloc (.cells C 5 fr)) fun e w' => ∃ n j' s' F', e = .returned (.int .i64 (n : Nat)) ∧ ApR j s l n j' s' ∧ Stp D J B w F G w' F' p pj s' j' := by
  have hb := below_alloc w (.cells C 5 fr)
  refine (step_append hJ (both_keep hD hJ h hb) (Nat.le_trans hB hb.size) hs hj _ n n l (arg_const w l C fr hC hn hl) (by omega) (fun _ => far_const h)).mono ?_
  rintro e w' ⟨n, j', s', F', he, hr, ht⟩
  exact ⟨n, j', s', F', he, hr, stp_back hb hB ht⟩
theorem checkpoint_const (hD : Dsk.Prog D) (hJ : JProg D J) (h : Both D J B w F G p pj s j) (hB : B ≤ w.heap.size) (hs : s.good.length ≤ 100) (hj : JOk j s.good.length) (hsee : Seen j s) (l : Bs) (n : Nat) (C : Array Value) (fr : Nat × Nat) (hC : C.toList = cellsB l) (hn : l.length = n) (hl : n ≤ 1000) :
    Calls Try.prog 15 #[.pointer (some ⟨pj, 0, none⟩), .slice (some ⟨w.heap.size, 0, none⟩) n n] (w.alloc (.cells C 5 fr)) fun e w' => ∃ n j' s' F', e = .returned (.int .i64 (n : Nat)) ∧ CkR j s l n j' s' ∧ Stp D J B w F G w' F' p pj s' j' := by
  have hb := below_alloc w (.cells C 5 fr)
  refine (step_checkpoint hJ (both_keep hD hJ h hb) (Nat.le_trans hB hb.size) hs hj hsee _ n n l (arg_const w l C fr hC hn hl) (by omega) (fun _ => far_const h)).mono ?_
  rintro e w' ⟨n, j', s', F', he, hr, ht⟩
  exact ⟨n, j', s', F', he, hr, stp_back hb hB ht⟩

/-! ### Awake -/

/-- A journal in the fixed fact. -/
def awJ (p e q x : Nat) (o : Bool) : JS := { slot := 2, place := p, epoch := e, seq := q, next := x, opened := o, down := false }
theorem awJ_ok (p e q x : Nat) (o : Bool) (h1 : p ≤ 1) (h2 : e ≤ 9) (h3 : q ≤ 9) (h4 : 4 ≤ x) (h5 : x ≤ 20) {n : Nat} (hn : n = 20) : JOk (awJ p e q x o) n := by
  subst hn
  exact ⟨⟨by show 1 ≤ 2; omega, by show 2 * 2 < 20; omega⟩, h1, by show e < _; omega, by show q < _; omega, h4, h5⟩
theorem two_of_map {ss : List Sv} {x y : Bs} (h : ss.map (·.l) = [x, y]) : ∃ x0 x1, ss = [x0, x1] ∧ x0.l = x ∧ x1.l = y := by
  match ss, h with
  | [x0, x1], h => simp at h; exact ⟨x0, x1, rfl, h.1, h.2⟩
structure Aw (D : World → (Nat → Prop) → Nat → DS → Prop) (J : World → (Nat → Prop) → Nat → Nat → JS → Prop) (W w : World) (F G : Nat → Prop) (p pj : Nat) (s : DS) (j : JS) (v : Value) (g n : List Sec) : Prop where
  both : Both D J W.heap.size w F G p pj s j
  below : Below W.heap.size W w
  txt : TxtF w (Apt F G w) v firstB
  good : s.good = g
  now : s.now = n
  fuse : s.fuse = -1
theorem aw_step {W : World} {v : Value} {g n g' n' : List Sec} {F' : Nat → Prop} (h : Aw D J W w F G p pj s j v g n) (hs : Stp D J W.heap.size w F G w' F' p pj s' j') (hg : s'.good = g') (hn : s'.now = n') (hf : s'.fuse = -1) : Aw D J W w' F' G p pj s' j' v g' n' :=
  ⟨hs.both, h.below.trans hs.below, stp_txt hs h.txt, hg, hn, hf⟩
theorem kcTxt {w : World} {P : Nat → Prop} {v : Value} {l : Bs} (h : TxtF w P v l) : (convert 27 9 v).run Try.prog w = .ok (.string ⟨l.toArray⟩) w := by
  obtain ⟨a, c, rfl, h2, _⟩ := h
  exact conv_row (P := Try.prog) (src := 27) (dst := 9) Try.underlying27 Try.underlying5 Try.underlying9 rfl (fun e => (h2.nil e).1) h2.row

set_option maxRecDepth 100000 in
set_option maxHeartbeats 4000000 in
theorem awake_any (hD : Dsk.Prog D) (hJ : JProg D J) (W : World) : Calls Try.prog 18 #[] W fun e w' => e = .returned (.bool true) ∧ Below W.heap.size W w' := by
  go_enter Try.func18, Try.ntmps18
  go_wp2_with fail
  refine (hD.new 20 W (by omega) (by omega)).mono ?_
  rintro e w1 ⟨p, rfl, hd, hb⟩
  have one : Dsk.OneF D W.heap.size w1 (More (fun _ => False) W w1) p (DS.new 20) := ⟨hd, fun k hk => hk.elim (fun h => h.elim) id⟩
  generalize More (fun _ => False) W w1 = F1 at one
  have H1 := Lib.hid (And.intro one hb)
  clear one hd hb
  have kc := Lib.run_convert_bytes_const (P := Try.prog) w1 27 5 #[.int .u8 102, .int .u8 105, .int .u8 114, .int .u8 115, .int .u8 116] 5 5 Try.underlying27 Try.underlying5
  go_wp2_with fail
  clear kc
  refine (format_const hD hJ H1.out.1 H1.out.2.size (show (20 : Nat) ≤ 100 by omega) 2 ⟨by omega, by omega⟩ firstB 5 _ _ rfl rfl (by omega)).mono ?_
  rintro e w2 ⟨n, s2, F2, rfl, hr, one, hb⟩
  obtain ⟨rfl, hg, hn, hf⟩ := format_free hr rfl (show partOk (20 : Nat) 2 by decide) (by decide) (by decide)
  replace hg : s2.good = aw1 := hg
  replace hn : s2.now = aw1 := hn
  have H2 := Lib.hid (And.intro one (And.intro (H1.out.2.trans hb) (And.intro hg (And.intro hn hf))))
  clear one hb hr hg hn hf H1
  go_wp2_with fail
  refine (step_open hD hJ H2.out.1 H2.out.2.1.size (by rw [H2.out.2.2.1, aw_len.1]; omega) 2 ⟨by omega, by omega⟩).mono ?_
  rintro e w3 ⟨n, r, hr, hb, he⟩
  obtain ⟨rfl, rfl⟩ := open_some hr (by rw [H2.out.2.2.1, aw_len.1]; decide) (by rw [H2.out.2.2.2.1]; exact aw1_pick)
  obtain ⟨pj, G, va, vl, rfl, hbo, hG, ht, hl⟩ := he
  rw [H2.out.2.2.2.1, show (2 : Int).toNat = 2 from rfl, aw1_list] at hbo hl
  replace hbo : Both D J W.heap.size w3 F2 G p pj s2 (awJ 0 1 0 4 false) := hbo
  have hA : Aw D J W w3 F2 G p pj s2 (awJ 0 1 0 4 false) va aw1 aw1 := ⟨hbo, below_keep H2.out.2.1 hb, ht, H2.out.2.2.1, H2.out.2.2.2.1, H2.out.2.2.2.2⟩
  obtain ⟨al, cl, ss, rfl, _, _, _, _, _, hss, _⟩ := hl
  obtain rfl : ss = [] := by simpa using hss
  have HA := Lib.hid hA
  clear hA hbo hG ht hss hb hr H2
  have kc := Lib.run_convert_bytes_const (P := Try.prog) w3 27 5 #[.int .u8 120] 1 1 Try.underlying27 Try.underlying5
  go_wp2_with fail
  clear kc
  refine (append_const hD hJ HA.out.both HA.out.below.size (by rw [HA.out.good, aw_len.1]; omega) (awJ_ok _ _ _ _ _ (by omega) (by omega) (by omega) (by omega) (by omega) (by rw [HA.out.good, aw_len.1])) [120] 1 _ _ rfl rfl (by omega)).mono ?_
  rintro e w4 ⟨n, j', s', F4, rfl, hr, hst⟩
  obtain ⟨rfl, rfl, rfl⟩ := ap_closed hr rfl rfl
  have HA4 := Lib.hid (aw_step HA.out hst HA.out.good HA.out.now HA.out.fuse)
  clear hr hst HA
  have kc := Lib.run_convert_bytes_const (P := Try.prog) w4 27 5 #[.int .u8 115, .int .u8 101, .int .u8 99, .int .u8 111, .int .u8 110, .int .u8 100] 6 6 Try.underlying27 Try.underlying5
  go_wp2_with fail
  clear kc
  refine (checkpoint_const hD hJ HA4.out.both HA4.out.below.size (by rw [HA4.out.good, aw_len.1]; omega) (awJ_ok _ _ _ _ _ (by omega) (by omega) (by omega) (by omega) (by omega) (by rw [HA4.out.good, aw_len.1])) (fun _ => ⟨1, 0, firstB, by rw [HA4.out.now]; exact aw1_pick⟩) secondB 6 _ _ rfl rfl (by omega)).mono ?_
  rintro e w5 ⟨n, j', s5, F5, rfl, hr, hst⟩
  obtain ⟨rfl, rfl, hg, hn, hf⟩ := ck_free hr HA4.out.fuse rfl (by decide) (by rw [HA4.out.now, aw1_last]; omega) (by decide)
  rw [HA4.out.now, aw1_last] at hg hn hst
  have HA5 : Hid (Aw D J W w5 F5 G p pj s5 (awJ 1 2 0 4 true) va aw2 aw2) := Lib.hid (aw_step HA4.out hst hg hn hf)
  clear hr hst hg hn hf HA4
  have kc := Lib.run_convert_bytes_const (P := Try.prog) w5 27 5 #[.int .u8 97] 1 1 Try.underlying27 Try.underlying5
  go_wp2_with fail
  clear kc
  refine (append_const hD hJ HA5.out.both HA5.out.below.size (by rw [HA5.out.good, aw_len.2.1]; omega) (awJ_ok _ _ _ _ _ (by omega) (by omega) (by omega) (by omega) (by omega) (by rw [HA5.out.good, aw_len.2.1])) [97] 1 _ _ rfl rfl (by omega)).mono ?_
  rintro e w6 ⟨n, j', s6, F6, rfl, hr, hst⟩
  obtain ⟨rfl, rfl, hg, hn, hf⟩ := ap_free hr HA5.out.fuse rfl rfl (by decide) (by decide) (by rw [HA5.out.good, aw_len.2.1]; decide)
  rw [HA5.out.now] at hn
  have HA6 : Hid (Aw D J W w6 F6 G p pj s6 (awJ 1 2 1 5 true) va aw2 aw3) := Lib.hid (aw_step HA5.out hst (hg.trans HA5.out.good) hn hf)
  clear hr hst hg hn hf HA5
  have kc := Lib.run_convert_bytes_const (P := Try.prog) w6 27 5 #[.int .u8 98] 1 1 Try.underlying27 Try.underlying5
  go_wp2_with fail
  clear kc
  refine (append_const hD hJ HA6.out.both HA6.out.below.size (by rw [HA6.out.good, aw_len.2.1]; omega) (awJ_ok _ _ _ _ _ (by omega) (by omega) (by omega) (by omega) (by omega) (by rw [HA6.out.good, aw_len.2.1])) [98] 1 _ _ rfl rfl (by omega)).mono ?_
  rintro e w7 ⟨n, j', s7, F7, rfl, hr, hst⟩
  obtain ⟨rfl, rfl, hg, hn, hf⟩ := ap_free hr HA6.out.fuse rfl rfl (by decide) (by decide) (by rw [HA6.out.good, aw_len.2.1]; decide)
  rw [HA6.out.now] at hn
  have HA7 : Hid (Aw D J W w7 F7 G p pj s7 (awJ 1 2 2 6 true) va aw2 aw4) := Lib.hid (aw_step HA6.out hst (hg.trans HA6.out.good) hn hf)
  clear hr hst hg hn hf HA6
  go_wp2_with fail
  refine (step_commit hJ HA7.out.both HA7.out.below.size (by rw [HA7.out.good, aw_len.2.1]; omega) (awJ_ok _ _ _ _ _ (by omega) (by omega) (by omega) (by omega) (by omega) (by rw [HA7.out.good, aw_len.2.1]))).mono ?_
  rintro e w8 ⟨n, j', s8, F8, rfl, hr, hst⟩
  obtain ⟨rfl, rfl, hg, hn, hf⟩ := co_free hr HA7.out.fuse rfl rfl
  rw [HA7.out.now] at hg hn
  have HA8 : Hid (Aw D J W w8 F8 G p pj s8 (awJ 1 2 2 6 true) va aw4 aw4) := Lib.hid (aw_step HA7.out hst hg hn hf)
  clear hr hst hg hn hf HA7
  have kc := Lib.run_convert_bytes_const (P := Try.prog) w8 27 5 #[.int .u8 99] 1 1 Try.underlying27 Try.underlying5
  go_wp2_with fail
  clear kc
  refine (append_const hD hJ HA8.out.both HA8.out.below.size (by rw [HA8.out.good, aw_len.2.2]; omega) (awJ_ok _ _ _ _ _ (by omega) (by omega) (by omega) (by omega) (by omega) (by rw [HA8.out.good, aw_len.2.2])) [99] 1 _ _ rfl rfl (by omega)).mono ?_
  rintro e w9 ⟨n, j', s9, F9, rfl, hr, hst⟩
  obtain ⟨rfl, rfl, hg, hn, hf⟩ := ap_free hr HA8.out.fuse rfl rfl (by decide) (by decide) (by rw [HA8.out.good, aw_len.2.2]; decide)
  have HA9 : Hid (Aw D J W w9 F9 G p pj s9 (awJ 1 2 3 7 true) va aw4 s9.now) := Lib.hid (aw_step HA8.out hst (hg.trans HA8.out.good) rfl hf)
  clear hr hst hg hn hf HA8
  go_wp2_with fail
  refine (step_crash hD hJ HA9.out.both HA9.out.below.size 0 (-1) 0 ⟨by omega, by omega⟩ ⟨by omega, by omega⟩ ⟨by omega, by omega⟩).mono ?_
  rintro e w10 ⟨F10, rfl, hst⟩
  have hg : (s9.crash 0 (-1) 0).good = aw4 := (crash_none s9).trans HA9.out.good
  have hA := aw_step HA9.out hst hg (show (s9.crash 0 (-1) 0).now = aw4 from hg) rfl
  generalize s9.crash 0 (-1) 0 = s10 at *
  have HA10 := Lib.hid hA
  clear hst hg hA HA9
  go_wp2_with fail
  refine (step_open hD hJ ⟨HA10.out.both.d, HA10.out.both.flt⟩ HA10.out.below.size (by rw [HA10.out.good, aw_len.2.2]; omega) 2 ⟨by omega, by omega⟩).mono ?_
  rintro e w11 ⟨n, r, hr, hb, he⟩
  obtain ⟨rfl, rfl⟩ := open_some hr (by rw [HA10.out.good, aw_len.2.2]; decide) (by rw [HA10.out.now]; exact aw4_pick)
  obtain ⟨pk, G2, vb, vm, rfl, hbo, hG, ht, hl⟩ := he
  rw [HA10.out.now, show (2 : Int).toNat = 2 from rfl, aw4_list] at hbo hl
  replace hbo : Both D J W.heap.size w11 F10 G2 p pk s10 (awJ 1 2 2 6 false) := hbo
  have k1 := kcTxt (txt_keep hb HA10.out.txt)
  have k2 := kcTxt ht
  obtain ⟨a1, c1, rfl, hA1, _⟩ := HA10.out.txt
  obtain ⟨a2, c2, rfl, hA2, _⟩ := ht
  have HBo := Lib.hid (And.intro hbo (below_keep HA10.out.below hb))
  obtain ⟨am, cm, ss, rfl, hcm, _, hnm, hrm, hsm, hss, _⟩ := hl
  obtain ⟨x0, x1, rfl, hx0, hx1⟩ := two_of_map hss
  obtain ⟨b, o, rfl⟩ : ∃ b o, am = some ⟨b, o, none⟩ := by
    rcases hrm with h | ⟨b, o, e, _⟩
    · cases h
    · exact ⟨b, o, e⟩
  have hc := row_cell hrm (show 1 < 2 by omega) rfl (i := 0) (by omega)
  have k3 : (convert 27 9 x1.val).run Try.prog w11 = .ok (.string ⟨#[98]⟩) w11 := by
    have h := hsm x1 (by simp)
    have := conv_row (P := Try.prog) (src := 27) (dst := 9) (cap := x1.c) Try.underlying27 Try.underlying5 Try.underlying9 h.len (fun e => (h.nil e).1) h.row
    rw [hx1] at this
    exact this
  have hc1 : w11.cell? ⟨b, o + 1, none⟩ = some x1.val := hc
  obtain ⟨a3, n3, c3, l3⟩ := x1
  simp only [Sv.val] at k3 hc1
  clear hc hrm hsm hss hnm hA1 hA2 hbo hG hr hb HA10
  replace k1 : (convert 27 9 (.slice a1 5 c1)).run Try.prog w11 = .ok (.string ⟨#[102, 105, 114, 115, 116]⟩) w11 := k1
  replace k2 : (convert 27 9 (.slice a2 6 c2)).run Try.prog w11 = .ok (.string ⟨#[115, 101, 99, 111, 110, 100]⟩) w11 := k2
  rw [show firstB.length = 5 from rfl, show secondB.length = 6 from rfl, show [x0, (⟨a3, n3, c3, l3⟩ : Sv)].length = 2 from rfl]
  clear hx1
  go_wp2_with fail
  refine (hJ.seq HBo.out.1.j).mono ?_
  rintro e w12 ⟨rfl, hb⟩
  have HBo2 := Lib.hid (And.intro (both_keep hD hJ HBo.out.1 hb) (below_keep HBo.out.2 hb))
  clear hb HBo k1 k2 k3 hc1
  go_wp2_with fail
  refine (hJ.epoch HBo2.out.1.j).mono ?_
  rintro e w13 ⟨rfl, hb⟩
  have HB13 := Lib.hid (below_keep HBo2.out.2 hb)
  clear hb
  go_wp2
  go_ret
  exact ⟨rfl, HB13.out⟩
end Go.Proofs.Ytdgfoldobofgoaa.Jrn
/- Journal: are two lists of texts one? -/
namespace Go.Proofs.Ytdgfoldobofgoaa.Jrn
open Go.RowKit
open Go.Sort
open Kit
open Oct
open Chk
open Frm
open Foot
set_option linter.unusedVariables false

theorem run_at_svs (b o n c k : Nat) (h : k < n) (w : World) : (Instr.indexAt 29 (.slice (some ⟨b, o, none⟩) n c) (.int .i64 (k : Nat))).run Try.prog w = .ok (.pointer (some ⟨b, o + k, none⟩)) w := by
  simp [go_sem]
  omega
theorem run_ld_sv {w : World} {a : Option Addr} {n c : Nat} {q : Addr} (h : w.cell? q = some (.slice a n c)) : (Instr.loadAt 27 (.pointer (some q))).run Try.prog w = .ok (.slice a n c) w := by
  simp [go_sem, h]
theorem sv_at {w : World} {b o : Nat} {ss : List Sv} {k : Nat} (h : Kit.Row encV 1 w (some ⟨b, o, none⟩) ss) (hk : k < ss.length) : w.cell? ⟨b, o + k, none⟩ = some ss[k].val := by
  have := row_cell h hk rfl (i := 0) (by omega)
  simpa [encV] using this
set_option maxRecDepth 100000 in
set_option maxHeartbeats 400000 in
theorem texts_any (v1 v2 : Value) (l1 l2 : List Bs) (W : World) (h1 : ListB W v1 l1) (h2 : ListB W v2 l2) :
    Calls Try.prog 12 #[v1, v2] W fun e w' => e = .returned (.bool (decide (l1 = l2))) ∧ Below W.heap.size W w' := by
  obtain ⟨a1, c1, ss1, rfl, q1, m1, n1, r1, k1, rfl⟩ := h1
  obtain ⟨a2, c2, ss2, rfl, q2, m2, n2, r2, k2, rfl⟩ := h2
  unfold maxLen at m1 m2
  by_cases hl : ss1.length = ss2.length
  · have HR := Lib.hid (And.intro r1 r2)
    have HOk := Lib.hid (And.intro k1 k2)
    obtain ⟨n, hn⟩ : ∃ n, n = ss1.length := ⟨_, rfl⟩
    have HL := Lib.hid (And.intro hn hl)
    rw [← hl] at q2 ⊢
    rw [← hn] at q1 q2 ⊢
    clear r1 r2 k1 k2 n1 n2 hl hn
    go_enter Try.func12, Try.ntmps12
    go_wp2
    go_loopw [5] (fun iv wx => ∃ k : Nat, k ≤ n ∧ iv = .int .i64 k ∧ (∀ j, j < k → (ss1.map (·.l))[j]? = (ss2.map (·.l))[j]?) ∧ Below W.heap.size W wx) (fun iv _ => n - (intOf iv).toNat)
    case atStart => exact ⟨0, Nat.zero_le _, rfl, (fun j hj => by omega), Below.refl _ _⟩
    case round =>
      obtain ⟨k, hk, rfl, hall, hb⟩ := hrel
      have HAll := Lib.hid hall
      have HB := Lib.hid hb
      clear hall hb
      by_cases hlt : k < n
      · have hk1 : k < ss1.length := by rw [← HL.out.1]; exact hlt
        have hk2 : k < ss2.length := by rw [← HL.out.2]; exact hk1
        have r1 := row_keep encV_len HR.out.1 HB.out
        have r2 := row_keep encV_len HR.out.2 HB.out
        obtain ⟨b1, o1, rfl⟩ : ∃ b o, a1 = some ⟨b, o, none⟩ := by
          rcases HR.out.1 with h | ⟨b, o, e, _⟩
          · rw [h] at hk1; cases hk1
          · exact ⟨b, o, e⟩
        obtain ⟨b2, o2, rfl⟩ : ∃ b o, a2 = some ⟨b, o, none⟩ := by
          rcases HR.out.2 with h | ⟨b, o, e, _⟩
          · rw [h] at hk2; cases hk2
          · exact ⟨b, o, e⟩
        have hc1 := sv_at r1 hk1
        have hc2 := sv_at r2 hk2
        have hs1 := sv_keep (HOk.out.1 _ (List.getElem_mem hk1)) HB.out
        have hs2 := sv_keep (HOk.out.2 _ (List.getElem_mem hk2)) HB.out
        have he1 : (ss1.map (·.l))[k]? = some ss1[k].l := by rw [List.getElem?_map, List.getElem?_eq_getElem hk1]; rfl
        have he2 : (ss2.map (·.l))[k]? = some ss2[k].l := by rw [List.getElem?_map, List.getElem?_eq_getElem hk2]; rfl
        generalize ss1[k] = s1 at *
        generalize ss2[k] = s2 at *
        obtain ⟨a3, n3, c3, x1⟩ := s1
        obtain ⟨a4, n4, c4, x2⟩ := s2
        simp only [Sv.val] at hc1 hc2 he1 he2
        have HC := Lib.hid (And.intro hc1 hc2)
        have HS1 := Lib.hid (show x1.length = n3 ∧ (a3 = none → n3 = 0) ∧ RowB wr a3 x1 from ⟨hs1.len, fun e => (hs1.nil e).1, hs1.row⟩)
        have HS2 := Lib.hid (show x2.length = n4 ∧ (a4 = none → n4 = 0) ∧ RowB wr a4 x2 from ⟨hs2.len, fun e => (hs2.nil e).1, hs2.row⟩)
        have HE := Lib.hid (And.intro he1 he2)
        have KC := Lib.hid fun (W : World) (a : Option Addr) (len cap : Nat) (l : List UInt8) (hl : l.length = len) (hn : a = none → len = 0) (h : RowB W a l) => conv_row (P := Try.prog) (src := 27) (dst := 9) Try.underlying27 Try.underlying5 Try.underlying9 (cap := cap) hl hn h
        obtain ⟨wq, hwq⟩ : ∃ x, x = wr := ⟨wr, rfl⟩
        subst hwq
        clear r1 r2 he1 he2 hk1 hk2 hs1 hs2 hc1 hc2
        by_cases hne : x1 = x2
        · have HNe := Lib.hid hne
          clear hne
          go_wp2_with fail
          refine Rel.wp_region_rel (G := Rel.Gr) (Rel.tab [.is (.slice (some ⟨b1, o1, none⟩) n c1), .is (.int .i64 (k : Nat)), .is (.pointer (some ⟨b1, o1 + k, none⟩)), .is (.slice a3 n3 c3), .is (.string ⟨x1.toArray⟩), .is (.slice (some ⟨b2, o2, none⟩) n c2), .is (.int .i64 (k : Nat)), .is (.pointer (some ⟨b2, o2 + k, none⟩)), .is (.slice a4 n4 c4), .is (.string ⟨x2.toArray⟩), .is (.bool false)]) (fun _ w => Below wq.heap.size wq w) (by kernel_rfl) (by kernel_rfl) (by kernel_rfl) (by kernel_rfl) (fun w => Rel.gr_refl _) (below_drew _) ?_ ?_
          · refine ⟨?_, ?_, ?_, ?_, ?_, ?_, ?_, ?_, ?_, ?_, ?_, trivial⟩
            · intro L a w c
              refine .inl ⟨Rel.wanted_free (by kernel_rfl) _, ?_⟩
              exact Rel.wp_mv _ rfl ⟨_, rfl, Rel.gr_refl _, (c.old 0 (v := .slice (some ⟨b1, o1, none⟩) n c1) (by kernel_rfl) (by kernel_rfl)), c.inv⟩
            · intro L a w c
              refine .inl ⟨Rel.wanted_free (by kernel_rfl) _, ?_⟩
              exact Rel.wp_mv _ rfl ⟨_, rfl, Rel.gr_refl _, (c.old 5 (v := .int .i64 (k : Nat)) (by kernel_rfl) (by kernel_rfl)), c.inv⟩
            · intro L a w c
              refine .inl ⟨Rel.wanted_free (by kernel_rfl) _, ?_⟩
              exact Rel.wp_ia _ _ _ rfl (c.get 0 17 (by kernel_rfl)) (c.get 1 18 (by kernel_rfl)) (run_at_svs b1 o1 n c1 k (by omega) w) ⟨_, rfl, Rel.gr_refl _, rfl, c.inv⟩
            · intro L a w c
              refine .inl ⟨Rel.wanted_free (by kernel_rfl) _, ?_⟩
              exact Rel.wp_ld _ _ rfl (c.get 2 19 (by kernel_rfl)) (run_ld_sv (cell_keep c.inv HC.out.1)) ⟨_, rfl, Rel.gr_refl _, rfl, c.inv⟩
            · intro L a w c
              refine .inl ⟨Rel.wanted_free (by kernel_rfl) _, ?_⟩
              exact Rel.wp_cv _ _ _ rfl (c.get 3 20 (by kernel_rfl)) (KC.out w _ _ _ x1 HS1.out.1 HS1.out.2.1 (row_keep encB_len HS1.out.2.2 c.inv)) ⟨_, rfl, Rel.gr_refl _, rfl, c.inv⟩
            · intro L a w c
              refine .inl ⟨Rel.wanted_free (by kernel_rfl) _, ?_⟩
              exact Rel.wp_mv _ rfl ⟨_, rfl, Rel.gr_refl _, (c.old 1 (v := .slice (some ⟨b2, o2, none⟩) n c2) (by kernel_rfl) (by kernel_rfl)), c.inv⟩
            · intro L a w c
              refine .inl ⟨Rel.wanted_free (by kernel_rfl) _, ?_⟩
              exact Rel.wp_mv _ rfl ⟨_, rfl, Rel.gr_refl _, (c.old 5 (v := .int .i64 (k : Nat)) (by kernel_rfl) (by kernel_rfl)), c.inv⟩
            · intro L a w c
              refine .inl ⟨Rel.wanted_free (by kernel_rfl) _, ?_⟩
              exact Rel.wp_ia _ _ _ rfl (c.get 5 22 (by kernel_rfl)) (c.get 6 23 (by kernel_rfl)) (run_at_svs b2 o2 n c2 k (by omega) w) ⟨_, rfl, Rel.gr_refl _, rfl, c.inv⟩
            · intro L a w c
              refine .inl ⟨Rel.wanted_free (by kernel_rfl) _, ?_⟩
              exact Rel.wp_ld _ _ rfl (c.get 7 24 (by kernel_rfl)) (run_ld_sv (cell_keep c.inv HC.out.2)) ⟨_, rfl, Rel.gr_refl _, rfl, c.inv⟩
            · intro L a w c
              refine .inl ⟨Rel.wanted_free (by kernel_rfl) _, ?_⟩
              exact Rel.wp_cv _ _ _ rfl (c.get 8 25 (by kernel_rfl)) (KC.out w _ _ _ x2 HS2.out.1 HS2.out.2.1 (row_keep encB_len HS2.out.2.2 c.inv)) ⟨_, rfl, Rel.gr_refl _, rfl, c.inv⟩
            · intro L a w c
              refine .inl ⟨Rel.wanted_free (by kernel_rfl) _, ?_⟩
              exact Rel.wp_bo _ _ _ _ _ rfl (u := .bool false) (c.get 4 21 (by kernel_rfl)) (c.get 9 26 (by kernel_rfl)) (by simp [go_sem, HNe.out]) ⟨_, rfl, Rel.gr_refl _, rfl, c.inv⟩
          intro a w8 hbase hroom hdef hJ hV
          have s27 : Rel.slot a 27 = .bool false := hV 10 _ _ rfl rfl
          rw [Chn.act_puts [17, 18, 19, 20, 21, 22, 23, 24, 25, 26, 27] hbase hroom hdef (by kernel_rfl)]
          clear hbase hroom hdef hV
          simp only [List.foldl_cons, List.foldl_nil]
          generalize Rel.slot a 17 = u17 at *
          generalize Rel.slot a 18 = u18 at *
          generalize Rel.slot a 19 = u19 at *
          generalize Rel.slot a 20 = u20 at *
          generalize Rel.slot a 21 = u21 at *
          generalize Rel.slot a 22 = u22 at *
          generalize Rel.slot a 23 = u23 at *
          generalize Rel.slot a 24 = u24 at *
          generalize Rel.slot a 25 = u25 at *
          generalize Rel.slot a 26 = u26 at *
          rw [s27]
          clear s27
          simp only [Act.put, List.setIfInBounds_toArray, List.set_cons_succ, List.set_cons_zero]
          have HB8 := Lib.hid (below_keep HB.out hJ)
          clear hJ
          go_wp2
          go_roundw
          case rel => exact ⟨k + 1, by omega, by go_num, (fun j hj => by
            rcases Nat.lt_or_ge j k with h | h
            · exact HAll.out j h
            · obtain rfl : j = k := by omega
              rw [HE.out.1, HE.out.2, HNe.out]), HB8.out⟩
          case measure => simp [intOf]; omega
        · have HNe := Lib.hid hne
          clear hne
          go_wp2_with fail
          refine Rel.wp_region_rel (G := Rel.Gr) (Rel.tab [.is (.slice (some ⟨b1, o1, none⟩) n c1), .is (.int .i64 (k : Nat)), .is (.pointer (some ⟨b1, o1 + k, none⟩)), .is (.slice a3 n3 c3), .is (.string ⟨x1.toArray⟩), .is (.slice (some ⟨b2, o2, none⟩) n c2), .is (.int .i64 (k : Nat)), .is (.pointer (some ⟨b2, o2 + k, none⟩)), .is (.slice a4 n4 c4), .is (.string ⟨x2.toArray⟩), .is (.bool true)]) (fun _ w => Below wq.heap.size wq w) (by kernel_rfl) (by kernel_rfl) (by kernel_rfl) (by kernel_rfl) (fun w => Rel.gr_refl _) (below_drew _) ?_ ?_
          · refine ⟨?_, ?_, ?_, ?_, ?_, ?_, ?_, ?_, ?_, ?_, ?_, trivial⟩
            · intro L a w c
              refine .inl ⟨Rel.wanted_free (by kernel_rfl) _, ?_⟩
              exact Rel.wp_mv _ rfl ⟨_, rfl, Rel.gr_refl _, (c.old 0 (v := .slice (some ⟨b1, o1, none⟩) n c1) (by kernel_rfl) (by kernel_rfl)), c.inv⟩
            · intro L a w c
              refine .inl ⟨Rel.wanted_free (by kernel_rfl) _, ?_⟩
              exact Rel.wp_mv _ rfl ⟨_, rfl, Rel.gr_refl _, (c.old 5 (v := .int .i64 (k : Nat)) (by kernel_rfl) (by kernel_rfl)), c.inv⟩
            · intro L a w c
              refine .inl ⟨Rel.wanted_free (by kernel_rfl) _, ?_⟩
              exact Rel.wp_ia _ _ _ rfl (c.get 0 17 (by kernel_rfl)) (c.get 1 18 (by kernel_rfl)) (run_at_svs b1 o1 n c1 k (by omega) w) ⟨_, rfl, Rel.gr_refl _, rfl, c.inv⟩
            · intro L a w c
              refine .inl ⟨Rel.wanted_free (by kernel_rfl) _, ?_⟩
              exact Rel.wp_ld _ _ rfl (c.get 2 19 (by kernel_rfl)) (run_ld_sv (cell_keep c.inv HC.out.1)) ⟨_, rfl, Rel.gr_refl _, rfl, c.inv⟩
            · intro L a w c
              refine .inl ⟨Rel.wanted_free (by kernel_rfl) _, ?_⟩
              exact Rel.wp_cv _ _ _ rfl (c.get 3 20 (by kernel_rfl)) (KC.out w _ _ _ x1 HS1.out.1 HS1.out.2.1 (row_keep encB_len HS1.out.2.2 c.inv)) ⟨_, rfl, Rel.gr_refl _, rfl, c.inv⟩
            · intro L a w c
              refine .inl ⟨Rel.wanted_free (by kernel_rfl) _, ?_⟩
              exact Rel.wp_mv _ rfl ⟨_, rfl, Rel.gr_refl _, (c.old 1 (v := .slice (some ⟨b2, o2, none⟩) n c2) (by kernel_rfl) (by kernel_rfl)), c.inv⟩
            · intro L a w c
              refine .inl ⟨Rel.wanted_free (by kernel_rfl) _, ?_⟩
              exact Rel.wp_mv _ rfl ⟨_, rfl, Rel.gr_refl _, (c.old 5 (v := .int .i64 (k : Nat)) (by kernel_rfl) (by kernel_rfl)), c.inv⟩
            · intro L a w c
              refine .inl ⟨Rel.wanted_free (by kernel_rfl) _, ?_⟩
              exact Rel.wp_ia _ _ _ rfl (c.get 5 22 (by kernel_rfl)) (c.get 6 23 (by kernel_rfl)) (run_at_svs b2 o2 n c2 k (by omega) w) ⟨_, rfl, Rel.gr_refl _, rfl, c.inv⟩
            · intro L a w c
              refine .inl ⟨Rel.wanted_free (by kernel_rfl) _, ?_⟩
              exact Rel.wp_ld _ _ rfl (c.get 7 24 (by kernel_rfl)) (run_ld_sv (cell_keep c.inv HC.out.2)) ⟨_, rfl, Rel.gr_refl _, rfl, c.inv⟩
            · intro L a w c
              refine .inl ⟨Rel.wanted_free (by kernel_rfl) _, ?_⟩
              exact Rel.wp_cv _ _ _ rfl (c.get 8 25 (by kernel_rfl)) (KC.out w _ _ _ x2 HS2.out.1 HS2.out.2.1 (row_keep encB_len HS2.out.2.2 c.inv)) ⟨_, rfl, Rel.gr_refl _, rfl, c.inv⟩
            · intro L a w c
              refine .inl ⟨Rel.wanted_free (by kernel_rfl) _, ?_⟩
              exact Rel.wp_bo _ _ _ _ _ rfl (u := .bool true) (c.get 4 21 (by kernel_rfl)) (c.get 9 26 (by kernel_rfl)) (by simp [go_sem]; exact HNe.out) ⟨_, rfl, Rel.gr_refl _, rfl, c.inv⟩
          intro a w8 hbase hroom hdef hJ hV
          have s27 : Rel.slot a 27 = .bool true := hV 10 _ _ rfl rfl
          rw [Chn.act_puts [17, 18, 19, 20, 21, 22, 23, 24, 25, 26, 27] hbase hroom hdef (by kernel_rfl)]
          clear hbase hroom hdef hV
          simp only [List.foldl_cons, List.foldl_nil]
          generalize Rel.slot a 17 = u17 at *
          generalize Rel.slot a 18 = u18 at *
          generalize Rel.slot a 19 = u19 at *
          generalize Rel.slot a 20 = u20 at *
          generalize Rel.slot a 21 = u21 at *
          generalize Rel.slot a 22 = u22 at *
          generalize Rel.slot a 23 = u23 at *
          generalize Rel.slot a 24 = u24 at *
          generalize Rel.slot a 25 = u25 at *
          generalize Rel.slot a 26 = u26 at *
          rw [s27]
          clear s27
          simp only [Act.put, List.setIfInBounds_toArray, List.set_cons_succ, List.set_cons_zero]
          have HB8 := Lib.hid (below_keep HB.out hJ)
          clear hJ
          go_wp2
          go_ret
          refine ⟨ret_bool (Eq.symm (decide_eq_false fun e => HNe.out ?_)), HB8.out⟩
          have h3 : (ss1.map (·.l))[k]? = (ss2.map (·.l))[k]? := congrArg (fun l : List Bs => l[k]?) e
          rw [HE.out.1, HE.out.2] at h3
          exact Option.some.inj h3
      · obtain rfl : k = n := by omega
        go_wp2
        go_ret
        refine ⟨ret_bool (Eq.symm (decide_eq_true (List.ext_getElem? fun j => ?_))), HB.out⟩
        by_cases hj : j < k
        · exact HAll.out j hj
        · rw [List.getElem?_eq_none (by rw [List.length_map, ← HL.out.1]; omega), List.getElem?_eq_none (by rw [List.length_map, ← HL.out.2, ← HL.out.1]; omega)]
  · have HL := Lib.hid (show decide (ss1.map (·.l) = ss2.map (·.l)) = false from decide_eq_false fun e => hl (by have := congrArg List.length e; simpa using this))
    have hli : ¬ (ss1.length : Int) = ss2.length := by omega
    clear r1 r2 k1 k2 n1 n2 hl
    go_enter Try.func12, Try.ntmps12
    go_wp2
    go_ret
    exact ⟨by rw [HL.out]; rfl, Below.refl _ _⟩
end Go.Proofs.Ytdgfoldobofgoaa.Jrn
/- Journal: JournalLasts' own list of all that was written; bounds of a journal in it. -/
namespace Go.Proofs.Ytdgfoldobofgoaa.Jrn
open Go.RowKit
open Go.Sort
open Kit
open Oct
open Chk
open Frm
open Foot
open Dsk (Sec DS mix mix_at mix_length mix_whole mix_none)
set_option linter.unusedVariables false

/-! ### How far a log goes -/

theorem flat32 (L : List Sec) (h : ∀ x ∈ L, x.length = 32) : L.flatten.length = 32 * L.length := by
  induction L with
  | nil => rfl
  | cons x L ih =>
    rw [List.flatten_cons, List.length_append, h x (by simp), ih fun y hy => h y (by simp [hy]), List.length_cons]; omega
theorem recs_span (E : Nat) : ∀ (f q : Nat) (L : List Sec), (∀ x ∈ L, x.length = 32) → span (recs E f q L) ≤ L.length
  | 0, q, L, h => Nat.zero_le _
  | f + 1, q, L, h => by
    unfold recs
    split
    · rename_i e q' b k hu
      split
      · obtain ⟨_, _, _, h4, h5, _⟩ := unpack_some hu
        rw [flat32 L h] at h5
        have ih := recs_span E f (q + 1) (L.drop k) fun x hx => h x (List.mem_of_mem_drop hx)
        rw [List.length_drop] at ih
        have : span (b :: recs E f (q + 1) (L.drop k)) = secs b.length + span (recs E f (q + 1) (L.drop k)) := by simp [span]
        omega
      · exact Nat.zero_le _
    · exact Nat.zero_le _
theorem log_span {E q K : Nat} {W : List Bs} {g n : List Sec} (h : LogN E q K W g n) : span W ≤ n.length := by
  induction h with
  | nil q R h => exact Nat.zero_le _
  | sure q K b W g n hb hq h ih =>
    have : span (b :: W) = secs b.length + span W := by simp [span]
    rw [List.length_append, secsB_length]; omega
  | fresh q b W G g n hb hq hl hG h ih =>
    have : span (b :: W) = secs b.length + span W := by simp [span]
    rw [List.length_append, secsB_length]; omega

/-! ### The journal's bounds -/

theorem jok_live {t sure : Nat} {all : List Bs} {j : JS} {s : DS} (h : LInv t all sure j s) (hd : j.down = false) : JOk j 64 := by
  cases h.inv with
  | down j hj hs => rw [hd] at hj; cases hj
  | closed p E M Q C W hc hs hW hC =>
    obtain ⟨b1, b2, b3, b4, b5, b6⟩ := hc.bd
    have hr := recs_span E (s.now.length + 1) Q (s.now.drop (2 * 2)) fun x hx => hc.all32 x (List.mem_of_mem_drop hx)
    have hrd := hc.read
    unfold listed at hrd
    rw [hrd, List.length_drop, hc.len] at hr
    have hp := hc.p2
    exact ⟨⟨by show 1 ≤ 2; omega, by show 2 * 2 < 64; omega⟩, by show p ≤ 1; omega, by show E < _; omega, by show Q + W.length < _; omega, by show 2 * 2 ≤ 4 + span W; omega, by show 4 + span W ≤ 64; omega⟩
  | opened p E Q C K W ho hW hC hs =>
    obtain ⟨b1, b2, b3, b4, b5⟩ := ho.bd
    have hr := log_span ho.log
    rw [List.length_drop, ho.nlen] at hr
    have hp := ho.p2
    exact ⟨⟨by show 1 ≤ 2; omega, by show 2 * 2 < 64; omega⟩, by show p ≤ 1; omega, by show E < _; omega, by show Q + W.length < _; omega, by show 2 * 2 ≤ 4 + span W; omega, by show 4 + span W ≤ 64; omega⟩
theorem open_pick {t p E Q C K : Nat} {W : List Bs} {g n : List Sec} (h : OpenD t p E Q C W K g n) : pick n 2 = some (p, E, Q, beB 2 C) := by
  obtain ⟨m, _, _, h3⟩ := open_crash h (c := n) ⟨by rw [h.nlen, h.glen], fun i x y z hx hy hz => ⟨32, Nat.le_refl _, by
    rw [hy] at hz
    injection hz with hz
    rw [← hz, mix_whole (h.g32 _ (List.mem_of_getElem? hx)) (h.n32 _ (List.mem_of_getElem? hy))]⟩⟩
  exact closed_pick (h3 E (Nat.le_refl _) h.bd.2.1)
theorem linv_seen {t sure : Nat} {all : List Bs} {j : JS} {s : DS} (h : LInv t all sure j s) : Seen j s := by
  intro hd
  cases h.inv with
  | down j hj hs => rw [hd] at hj; cases hj
  | closed p E M Q C W hc hs hW hC => exact ⟨E, Q, beB 2 C, closed_pick hc⟩
  | opened p E Q C K W ho hW hC hs => exact ⟨E, Q, beB 2 C, open_pick ho⟩
theorem jok_down {j : JS} {n : Nat} (h : JOk j n) (b : Bool) : JOk { j with down := b } n := ⟨h.slot, h.place, h.epoch, h.seq, h.next⟩
theorem jok_ap {j j' : JS} {s s' : DS} {b : Bs} {e n : Nat} (h : JOk j n) (hn : s.good.length = n) (hr : ApR j s b e j' s') : JOk j' n := by
  cases hr with
  | dead hd => exact h
  | closed hd ho => exact h
  | big hd ho h2 => exact h
  | full hd ho h2 h3 => exact h
  | down s' hd ho h2 h3 hs => exact jok_down h _
  | done s' hd ho h2 h3 hs => exact ⟨h.slot, h.place, h.epoch, by show j.seq + 1 < _; omega, by show 2 * j.slot ≤ j.next + _; have := h.next.1; omega, by show j.next + secs b.length ≤ n; omega⟩
theorem jok_ck {j j' : JS} {s s' : DS} {b : Bs} {e n : Nat} (h : JOk j n) (hr : CkR j s b e j' s') : JOk j' n := by
  cases hr with
  | dead hd => exact h
  | big hd h1 => exact h
  | full hd h1 h2 => exact h
  | down s' hd h1 h2 hs => exact jok_down h _
  | done s' hd h1 h2 hs => exact ⟨h.slot, by show 1 - j.place ≤ 1; omega, by show lastE s.now + 1 < _; omega, h.seq, Nat.le_refl _, by show 2 * j.slot ≤ n; have := h.slot.2; omega⟩
theorem jok_co {j j' : JS} {s s' : DS} {e n : Nat} (h : JOk j n) (hr : CoR j s e j' s') : JOk j' n := by
  cases hr with
  | dead hd => exact h
  | closed hd ho => exact h
  | done s' hd ho hs => exact h
  | down s' hd ho hs hf => exact jok_down h _
theorem open_live {s : DS} {slot : Int} {n : Nat} {j : JS} {b : Bs} {l : List Bs} (h : OpenR s slot n (some (j, b, l))) : j.down = false := by cases h; rfl

/-! ### All that was written -/

variable {D : World → (Nat → Prop) → Nat → DS → Prop} {J : World → (Nat → Prop) → Nat → Nat → JS → Prop}
/-- The list v of the law: its elements lie in what was handed in (world W), it has a block of its own. -/
def AllL (W w : World) (F G : Nat → Prop) (v : Value) (all : List Bs) : Prop :=
  ∃ ss : List Sv, Owns encV 1 27 w W.heap.size v ss ∧ (∃ g, v.ownBlock = some g ∧ ¬ F g ∧ ¬ G g) ∧ (∀ s ∈ ss, SvOk W s) ∧ ss.map (·.l) = all
variable {B p pj : Nat} {W w w' : World} {F G F' : Nat → Prop} {s : DS} {j : JS} {v : Value} {all : List Bs}
theorem all_lt (h : AllL W w F G v all) {g : Nat} (hg : v.ownBlock = some g) : W.heap.size ≤ g ∧ g < w.heap.size := by
  obtain ⟨ss, h1, _⟩ := h
  exact World.ownsRow.lt h1 g hg
theorem all_stp (h : AllL W w F G v all) (hs : Stp D J B w F G w' F' p pj s j) : AllL W w' F' G v all := by
  have hlt := fun g hg => (all_lt h (g := g) hg).2
  obtain ⟨ss, h1, ⟨g, h2, h3, h4⟩, h5, h6⟩ := h
  refine ⟨ss, own_chg hs.chg h1 fun g' hg' hh => ?_, ⟨g, h2, fun hf => ?_, h4⟩, h5, h6⟩
  · rw [h2] at hg'
    injection hg' with hg'
    subst hg'
    exact hh.elim h3 h4
  · rcases hs.more g hf with hf | hf
    · exact h3 hf
    · have := hlt g h2; omega
theorem all_keep (h : AllL W w F G v all) (hb : Below w.heap.size w w') : AllL W w' F G v all := by
  obtain ⟨ss, h1, h2, h5, h6⟩ := h
  exact ⟨ss, own_chg (new_chg hb (fun _ => False)) h1 fun _ _ h => h, h2, h5, h6⟩
/-- Another journal. -/
theorem all_other {G' : Nat → Prop} (h : AllL W w F G v all) (hG : ∀ k, G' k → w.heap.size ≤ k) : AllL W w F G' v all := by
  have hlt := fun g hg => (all_lt h (g := g) hg).2
  obtain ⟨ss, h1, ⟨g, h2, h3, h4⟩, h5, h6⟩ := h
  exact ⟨ss, h1, ⟨g, h2, h3, fun hg => by have := hG g hg; have := hlt g h2; omega⟩, h5, h6⟩
theorem all_new (hB : W.heap.size ≤ w.heap.size) (hF : ∀ k, F k → k < w.heap.size) (hG : ∀ k, G k → k < w.heap.size) : AllL W (w.alloc (.cells #[] 27)) F G (.slice (some ⟨w.heap.size, 0, none⟩) 0 0) [] :=
  ⟨[], World.ownsRow_made w #[] 0 hB (by unfold maxLen; omega) rfl, ⟨w.heap.size, rfl, fun h => absurd (hF _ h) (Nat.lt_irrefl _), fun h => absurd (hG _ h) (Nat.lt_irrefl _)⟩, (fun s hs => by cases hs), rfl⟩
/-- The value of it, and a part of it. -/
theorem all_form (h : AllL W w F G v all) : ∃ g c, v = .slice (some ⟨g, 0, none⟩) all.length c ∧ all.length ≤ c ∧ c ≤ maxLen := by
  obtain ⟨ss, h1, ⟨g, h2, _⟩, h5, h6⟩ := h
  obtain ⟨a, c, rfl, h3, h4, _, _⟩ := owns_row encV_len h1
  have hl : ss.length = all.length := by rw [← h6, List.length_map]
  rcases h1.2 with ⟨hn, _⟩ | ⟨g', cap, cur, he, _⟩
  · injection hn with hn
    subst hn
    cases h2
  · injection he with e1 e2 e3
    subst e1 e3
    exact ⟨g', c, by rw [hl], by omega, h4⟩
theorem all_part {g c : Nat} (h : AllL W w F G (.slice (some ⟨g, 0, none⟩) all.length c) all) (hb : Below W.heap.size W w) (i m : Nat) (hi : i + m ≤ all.length) : ListB w (.slice (some ⟨g, i, none⟩) m (c - i)) ((all.drop i).take m) := by
  obtain ⟨ss, h1, _, h5, h6⟩ := h
  obtain ⟨a, c', he, h3, h4, _, h7⟩ := owns_row encV_len h1
  injection he with e1 e2 e3
  subst e1 e3
  have hl : ss.length = all.length := by rw [← h6, List.length_map]
  refine ⟨some ⟨g, i, none⟩, c - i, (ss.drop i).take m, ?_, ?_, ?_, (fun h => by cases h), ?_, fun s hs => sv_keep (h5 s (List.mem_of_mem_drop (List.mem_of_mem_take hs))) hb, ?_⟩
  · rw [List.length_take, List.length_drop, Nat.min_eq_left (by omega)]
  · rw [List.length_take, List.length_drop]; omega
  · omega
  · have := row_take (row_drop h7 i) m
    simpa using this
  · rw [List.map_take, List.map_drop, h6]
end Go.Proofs.Ytdgfoldobofgoaa.Jrn
/- Journal: what JournalLasts' walk takes: an act in memory, what holds ahead of each act, the list of all that was written. -/
namespace Go.Proofs.Ytdgfoldobofgoaa.Jrn
open Go.RowKit
open Go.Sort
open Kit
open Oct
open Chk
open Frm
open Foot
open Dsk (Sec DS mix mix_at mix_length mix_whole mix_none)
set_option linter.unusedVariables false
variable {D : World → (Nat → Prop) → Nat → DS → Prop} {J : World → (Nat → Prop) → Nat → Nat → JS → Prop}

theorem ac_range {w : World} {b o k : Nat} {l : List Ac} (h : Kit.Row encA 5 w (some ⟨b, o, none⟩) l) (hk : k < l.length) : w.rangeAt b (o + k * 5) (encA l[k]) := fun j v hv => by
  have hj : j < 5 := by have := (List.getElem?_eq_some_iff.1 hv).1; rw [encA_len] at this; exact this
  rw [row_cell h hk rfl hj]; exact hv
theorem ac_cells {w : World} {b o k : Nat} {l : List Ac} (h : Kit.Row encA 5 w (some ⟨b, o, none⟩) l) (hk : k < l.length) :
    w.cell? ⟨b, o + k * 5, none⟩ = some (.int .u8 (l[k].d.toNat : Int)) ∧ w.cell? ⟨b, o + k * 5 + 1, none⟩ = some l[k].b.val ∧ w.cell? ⟨b, o + k * 5 + 2, none⟩ = some (.int .i64 l[k].keep) ∧ w.cell? ⟨b, o + k * 5 + 3, none⟩ = some (.int .i64 l[k].torn) ∧ w.cell? ⟨b, o + k * 5 + 4, none⟩ = some (.int .i64 l[k].cut) :=
  ⟨row_cell h hk rfl (i := 0) (by omega), row_cell h hk rfl (i := 1) (by omega), row_cell h hk rfl (i := 2) (by omega), row_cell h hk rfl (i := 3) (by omega), row_cell h hk rfl (i := 4) (by omega)⟩
theorem acs_some {w : World} {a : Option Addr} {k : Nat} {l : List Ac} (h : Kit.Row encA 5 w a l) (hk : k < l.length) : ∃ b o, a = some ⟨b, o, none⟩ := by
  rcases h with h | ⟨b, o, h, _⟩
  · rw [h] at hk; simp at hk
  · exact ⟨b, o, h⟩
/-- What holds ahead of each act. -/
structure La (D : World → (Nat → Prop) → Nat → DS → Prop) (J : World → (Nat → Prop) → Nat → Nat → JS → Prop) (W w : World) (p pj k : Nat) (v : Value) (all : List Bs) (sure : Nat) (j : JS) (s : DS) (F G : Nat → Prop) : Prop where
  both : Both D J W.heap.size w F G p pj s j
  below : Below W.heap.size W w
  list : AllL W w F G v all
  inv : LInv (k + 1) all sure j s
  jok : JOk j 64
  small : all.length ≤ k
/-- An act as it lies in memory. -/
structure Xl (w : World) (F G : Nat → Prop) (b : Nat) (x : Ac) : Prop where
  c0 : w.cell? ⟨b, 0, none⟩ = some (.int .u8 (x.d.toNat : Int))
  c1 : w.cell? ⟨b, 1, none⟩ = some x.b.val
  c2 : w.cell? ⟨b, 2, none⟩ = some (.int .i64 x.keep)
  c3 : w.cell? ⟨b, 3, none⟩ = some (.int .i64 x.torn)
  c4 : w.cell? ⟨b, 4, none⟩ = some (.int .i64 x.cut)
  far : ¬ F b ∧ ¬ G b

theorem info_sv : (Try.prog.info? 27).map (fun i => (i.zero, i.size, i.bytes)) = some (some (.slice none 0 0), 1, 24) := by kernel_rfl
variable {B p pj : Nat} {W w w' : World} {F G F' : Nat → Prop} {s s' : DS} {j j' : JS} {v v' : Value} {all : List Bs} {k sure : Nat}
theorem xl_new (w : World) (hF : ∀ k, F k → k < w.heap.size) (hG : ∀ k, G k → k < w.heap.size) (x : Ac) : Xl (w.alloc (.cells #[.int .u8 (x.d.toNat : Int), x.b.val, .int .i64 x.keep, .int .i64 x.torn, .int .i64 x.cut] 34)) F G w.heap.size x := by
  have h := Arr.blk_new w w.heap.size 34 (encA x) rfl
  exact ⟨Arr.blk_cell h 0, Arr.blk_cell h 1, Arr.blk_cell h 2, Arr.blk_cell h 3, Arr.blk_cell h 4, fun h => absurd (hF _ h) (Nat.lt_irrefl _), fun h => absurd (hG _ h) (Nat.lt_irrefl _)⟩
theorem xl_keep {b : Nat} {x : Ac} (h : Xl w F G b x) (hb : Below w.heap.size w w') : Xl w' F G b x := ⟨cell_keep hb h.c0, cell_keep hb h.c1, cell_keep hb h.c2, cell_keep hb h.c3, cell_keep hb h.c4, h.far⟩
theorem xl_stp {b : Nat} {x : Ac} (h : Xl w F G b x) (hs : Stp D J B w F G w' F' p pj s j) : Xl w' F' G b x := by
  have hn : ¬ (F b ∨ G b) := fun hh => hh.elim h.far.1 h.far.2
  exact ⟨cell_chg hs.chg h.c0 hn, cell_chg hs.chg h.c1 hn, cell_chg hs.chg h.c2 hn, cell_chg hs.chg h.c3 hn, cell_chg hs.chg h.c4 hn, fun hf => (hs.more b hf).elim h.far.1 fun h' => by have := World.block_lt_of_cell? w _ h.c0; simp at this; omega, h.far.2⟩
theorem la_keep (hD : Dsk.Prog D) (hJ : JProg D J) (h : La D J W w p pj k v all sure j s F G) (hb : Below w.heap.size w w') : La D J W w' p pj k v all sure j s F G :=
  ⟨both_keep hD hJ h.both hb, below_keep h.below hb, all_keep h.list hb, h.inv, h.jok, h.small⟩
theorem la_stp {sure' : Nat} (h : La D J W w p pj k v all sure j s F G) (hs : Stp D J W.heap.size w F G w' F' p pj s' j') (hi : LInv (k + 1 + 1) all sure' j' s') (hj : JOk j' 64) : La D J W w' p pj (k + 1) v all sure' j' s' F' G :=
  ⟨hs.both, h.below.trans hs.below, all_stp h.list hs, hi, hj, Nat.le_succ_of_le h.small⟩
theorem both_grown (hD : Dsk.Prog D) (hJ : JProg D J) {row : Option Nat} (h : Both D J B w F G p pj s j) (hg : w.grownBy w' row) (hr : ∀ g, row = some g → ¬ F g ∧ ¬ G g) : Both D J B w' F G p pj s j := by
  have hC : Chg (fun k => row = some k) w w' := chg_grown (chg_refl _ w) hg fun k hk => .inl hk
  exact ⟨hD.chg h.d hC fun k hk e => (hr k e).1 hk, hJ.chg h.j hC fun k hk e => (hr k e).2 hk, fun k hk => ⟨(h.flt k hk).1, Nat.lt_of_lt_of_le (h.flt k hk).2 hg.size⟩, fun k hk => ⟨(h.glt k hk).1, Nat.lt_of_lt_of_le (h.glt k hk).2 hg.size⟩, h.apart⟩
/-- A record is put behind the list. -/
theorem la_push (hD : Dsk.Prog D) (hJ : JProg D J) {o : Obj} {ss : List Sv} {x : Sv} (hbo : Both D J W.heap.size w F G p pj s j) (hB : Below W.heap.size W w) (h1 : Owns encV 1 27 w W.heap.size v ss) (h2 : ∃ g, v.ownBlock = some g ∧ ¬ F g ∧ ¬ G g) (h3 : ∀ s ∈ ss, SvOk W s) (h4 : ss.map (·.l) = all) (hx : SvOk W x)
    (ho : Owns encV 1 27 w' W.heap.size v' (ss ++ [x])) (hg : (w.alloc o).grownBy w' v.ownBlock) (hw : v'.ownBlock = v.ownBlock ∨ v'.ownBlock = some (w.alloc o).heap.size) :
    Both D J W.heap.size w' F G p pj s j ∧ Below W.heap.size W w' ∧ AllL W w' F G v' (all ++ [x.l]) := by
  have hb := below_alloc w o
  have hbo' := both_keep hD hJ hbo hb
  obtain ⟨g, g1, g2, g3⟩ := h2
  refine ⟨both_grown hD hJ hbo' hg fun g' hg' => ?_, (hB.alloc hB.size o).trans (Two.below_grown (owns_alloc h1 o) hg (Nat.le_trans hB.size hb.size)), ss ++ [x], ho, ?_, ?_, by simp [h4]⟩
  · rw [g1] at hg'
    injection hg' with hg'
    subst hg'
    exact ⟨g2, g3⟩
  · rcases hw with hw | hw
    · exact ⟨g, hw.trans g1, g2, g3⟩
    · exact ⟨_, hw, fun h => absurd (hbo'.flt _ h).2 (Nat.lt_irrefl _), fun h => absurd (hbo'.glt _ h).2 (Nat.lt_irrefl _)⟩
  · intro y hy
    rcases List.mem_append.1 hy with hy | hy
    · exact h3 y hy
    · simp at hy; subst hy; exact hx
/-- A part of the list is all that there is from now on. -/
theorem la_cut (hD : Dsk.Prog D) (hJ : JProg D J) {ss : List Sv} (n : Nat) (hbo : Both D J W.heap.size w F G p pj s j) (hB : Below W.heap.size W w) (h3 : ∀ s ∈ ss, SvOk W s) (h4 : ss.map (·.l) = all)
    (ho : Owns encV 1 27 w' W.heap.size v' ([] ++ ss.take n)) (hg : (w.alloc (.cells #[] 27)).grownBy w' (some w.heap.size)) (hw : v'.ownBlock = some w.heap.size ∨ v'.ownBlock = some (w.alloc (.cells #[] 27)).heap.size) :
    Both D J W.heap.size w' F G p pj s j ∧ Below W.heap.size W w' ∧ AllL W w' F G v' (all.take n) := by
  have hb := below_alloc w (.cells #[] 27)
  have hbo' := both_keep hD hJ hbo hb
  have hnF : ¬ F w.heap.size ∧ ¬ G w.heap.size := ⟨fun h => absurd (hbo.flt _ h).2 (Nat.lt_irrefl _), fun h => absurd (hbo.glt _ h).2 (Nat.lt_irrefl _)⟩
  refine ⟨both_grown hD hJ hbo' hg fun g' hg' => ?_, ?_, ss.take n, by simpa using ho, ?_, fun y hy => h3 y (List.mem_of_mem_take hy), by rw [List.map_take, h4]⟩
  · injection hg' with hg'
    subst hg'
    exact hnF
  · exact (hB.alloc hB.size _).trans ((Below.refl _ _).grown hg (Nat.le_trans hB.size hb.size) fun k hk => by injection hk with hk; subst hk; exact hB.size)
  · rcases hw with hw | hw
    · exact ⟨_, hw, hnF.1, hnF.2⟩
    · exact ⟨_, hw, fun h => absurd (hbo'.flt _ h).2 (Nat.lt_irrefl _), fun h => absurd (hbo'.glt _ h).2 (Nat.lt_irrefl _)⟩

theorem all_rows {g n c : Nat} {ss : List Sv} (h1 : Owns encV 1 27 w W.heap.size (.slice (some ⟨g, 0, none⟩) n c) ss) : Kit.Row encV 1 w (some ⟨g, 0, none⟩) ss := by
  obtain ⟨a, c', he, h3, h4, _, h7⟩ := owns_row encV_len h1
  injection he with e1 e2 e3
  rw [← e1] at h7
  exact h7
/-- The part that is asked for, wherever it begins. -/
theorem all_part2 {g c : Nat} (h : AllL W w F G (.slice (some ⟨g, 0, none⟩) all.length c) all) (hb : Below W.heap.size W w) (i m : Nat) (hi : i + m ≤ all.length) (hc : all.length ≤ c) (he : c = i) : ListB w (.slice (some ⟨g, 0, none⟩) m 0) ((all.drop i).take m) := by
  obtain rfl : m = 0 := by omega
  rw [List.take_zero]
  exact ⟨some ⟨g, 0, none⟩, 0, [], rfl, Nat.le_refl _, Nat.zero_le _, (fun h => by cases h), .inl rfl, (fun s hs => by cases hs), rfl⟩

theorem short_is {w : World} (a : Option Addr) (n c m : Nat) (l l4 : Bs) (h : SvOk w ⟨a, n, c, l⟩) (h4 : l4 = l.take 60) (hm : m = l4.length) :
    Calls Try.prog 17 #[.slice a n c, .int .i64 60] w fun e w' => e = .returned (.slice a m c) ∧ w = w' := by
  subst h4 hm
  exact short_any ⟨a, n, c, l⟩ 60 (by omega) w h
theorem cut_ok {w : World} {a : Option Addr} {n c m : Nat} {l l4 : Bs} (h : SvOk w ⟨a, n, c, l⟩) (h4 : l4 = l.take 60) (hm : m = l4.length) : Arg w a m c l4 := by
  subst h4 hm
  exact cutS_ok h 60
theorem texts_yes (v1 v2 : Value) (l1 l2 : List Bs) (W : World) (h1 : ListB W v1 l1) (h2 : ListB W v2 l2) (h : l1 = l2) :
    Calls Try.prog 12 #[v1, v2] W fun e w' => e = .returned (.bool true) ∧ Below W.heap.size W w' := by
  refine (texts_any v1 v2 l1 l2 W h1 h2).mono ?_
  rintro e w' ⟨he, hb⟩
  rw [decide_eq_true h] at he
  exact ⟨he, hb⟩
end Go.Proofs.Ytdgfoldobofgoaa.Jrn
/- Journal: JournalLasts, over any journal that does as it should. -/
namespace Go.Proofs.Ytdgfoldobofgoaa.Jrn
open Go.RowKit
open Go.Sort
open Kit
open Oct
open Chk
open Frm
open Foot
open Dsk (Sec DS mix mix_at mix_length mix_whole mix_none)
set_option linter.unusedVariables false
variable {D : World → (Nat → Prop) → Nat → DS → Prop} {J : World → (Nat → Prop) → Nat → Nat → JS → Prop}
variable {B p pj : Nat} {W w w' : World} {F G F' : Nat → Prop} {s s' : DS} {j j' : JS} {v v' : Value} {all : List Bs} {k sure : Nat}

set_option maxRecDepth 100000 in
set_option maxHeartbeats 40000000 in
theorem lasts_any (hD : Dsk.Prog D) (hQ : JProg D J) (aa : Option Addr) (len cap : Nat) (l : List Ac) (hl : l.length = len) (hlc : len ≤ cap) (hc : cap ≤ maxLen) (W : World) (hE : Kit.Row encA 5 W aa l) (hx : ∀ x ∈ l, x.ok W) :
    Calls Try.prog 3 #[.slice aa len cap] W fun e w' => e = .returned (.bool true) ∧ Below W.heap.size W w' := by
  subst hl
  have hmax : l.length ≤ 9223372036854775807 := by unfold maxLen at hc; omega
  have HE := Lib.hid hE
  have HX := Lib.hid hx
  clear hE hx hc hlc
  go_enter Try.func3, Try.ntmps3
  go_wp2_with fail
  refine (hD.new 64 W (by omega) (by omega)).mono ?_
  rintro e w1 ⟨p, rfl, hd, hb⟩
  have one : Dsk.OneF D W.heap.size w1 (More (fun _ => False) W w1) p (DS.new 64) := ⟨hd, fun k hk => hk.elim (fun h => h.elim) id⟩
  generalize More (fun _ => False) W w1 = F1 at one
  have H1 := Lib.hid (And.intro one hb)
  clear one hd hb
  go_wp2_with fail
  refine Calls.mono (show Calls Try.prog 9 #[.int .i64 0] w1 _ from count_any 0 (by omega) w1) ?_
  rintro e w2 ⟨rfl, hrow, hb⟩
  have H2 := Lib.hid (And.intro (Dsk.one_keep hD H1.out.1 hb) (And.intro (below_keep H1.out.2 hb) (And.intro hrow (show ¬ F1 w1.heap.size from fun h => absurd (H1.out.1.lt _ h).2 (Nat.lt_irrefl _)))))
  clear hrow hb
  go_wp2_with fail
  refine (step_format hD hQ H2.out.1 H2.out.2.1.size (show (64 : Nat) ≤ 100 by omega) 2 ⟨by omega, by omega⟩ _ 2 2 (beB 2 0) ⟨rfl, Nat.le_refl _, by unfold maxLen; omega, (fun h => by cases h), H2.out.2.2.1⟩ (by omega) (fun _ q hq => by injection hq with hq; subst hq; exact H2.out.2.2.2)).mono ?_
  rintro e w3 ⟨n, s3, F3, rfl, hfr, one, hb⟩
  obtain ⟨rfl, hg3, -, -⟩ := format_free hfr rfl (show partOk (64 : Nat) 2 by decide) (by decide) (by decide)
  have hl3 : s3.good.length = 64 := by rw [hg3]; decide +kernel
  have H3 := Lib.hid (And.intro one (And.intro (H2.out.2.1.trans hb) (And.intro hl3 hfr)))
  clear one hb hg3 hl3 hfr H1 H2
  go_wp2_with fail
  have hbn := below_alloc w3 (.cells #[] 27)
  have one4 := Dsk.one_keep hD H3.out.1 hbn
  have hB4 := below_keep H3.out.2.1 hbn
  have hall : AllL W (w3.alloc (.cells #[] 27)) F3 (fun _ => False) _ [] := all_new H3.out.2.1.size (fun k hk => (H3.out.1.lt k hk).2) (fun _ h => h.elim)
  refine (step_open hD hQ one4 hB4.size (by rw [H3.out.2.2.1]; omega) 2 ⟨by omega, by omega⟩).mono ?_
  rintro e w5 ⟨n, r, hr, hb, he⟩
  obtain ⟨-, rfl, j, rfl, hinv⟩ := linv_first H3.out.2.2.2 hr
  obtain ⟨pj, G, va, vl, rfl, hbo, hG, -, -⟩ := he
  have hall5 := all_keep (all_other hall hG) hb
  have HL : Hid (La D J W w5 p pj 0 _ [] 0 j s3 F3 G) := Lib.hid ⟨hbo, below_keep hB4 hb, hall5, hinv, jok_live hinv (open_live hr), Nat.le_refl _⟩
  clear hbn one4 hB4 hall hr hb hinv hbo hG hall5 H3
  go_wp2_with fail
  go_loopw [4, 5, 6, 9, 10] (fun v sv jv ev iv wx => ∃ (k sure pj : Nat) (all : List Bs) (j : JS) (s : DS) (F G : Nat → Prop), k ≤ l.length ∧ k ≤ 60 ∧ iv = .int .i64 k ∧ sv = .int .i64 sure ∧ jv = .pointer (some ⟨pj, 0, none⟩) ∧ ev = .int .i64 0 ∧ La D J W wx p pj k v all sure j s F G) (fun _ _ _ _ iv _ => l.length - (intOf iv).toNat)
  case atStart => exact ⟨0, 0, pj, [], j, s3, F3, G, Nat.zero_le _, by omega, rfl, rfl, rfl, rfl, HL.out⟩
  case round =>
    obtain ⟨k, sure, pj, all, j, s, F, G, hk, hk60, rfl, rfl, rfl, rfl, hla⟩ := hrel
    obtain ⟨g, c, rfl, hgc, hcm⟩ := all_form hla.list
    have HA := Lib.hid hla
    clear hla HL
    by_cases hlt : k < l.length ∧ k < 60
    · obtain ⟨hkl, hk5⟩ := hlt
      have hE := row_keep encA_len HE.out HA.out.below
      obtain ⟨ab, ao, rfl⟩ := acs_some hE hkl
      have hrg := ac_range hE hkl
      obtain ⟨q0, q1, q2, q3, q4⟩ := ac_cells hE hkl
      have hxk := HX.out l[k] (List.getElem_mem hkl)
      generalize l[k] = x at *
      obtain ⟨xd, ⟨a3, n3, c3, l3⟩, kp, tn, ct⟩ := x
      simp only [Sv.val] at q1
      have HXk := Lib.hid hxk
      have c60 : (k : Int) < 60 := by omega
      clear hE hxk hrg
      go_upto_region 13 with fail
      go_cut [11, 53] (fun pv tv wx => ∃ b : Nat, pv = .pointer (some ⟨b, 0, none⟩) ∧ tv = .int .u8 ((xd.toNat : Int) % 8) ∧ Below wr.heap.size wr wx ∧ Xl wx F G b ⟨xd, ⟨a3, n3, c3, l3⟩, kp, tn, ct⟩)
      case first =>
        go_wp2_with fail
        go_meet
        case rel => exact ⟨_, rfl, rfl, below_alloc _ _, xl_new _ (fun k hk => (HA.out.both.flt k hk).2) (fun k hk => (HA.out.both.glt k hk).2) ⟨xd, ⟨a3, n3, c3, l3⟩, kp, tn, ct⟩⟩
      case rest =>
        obtain ⟨b, rfl, rfl, hb, hxl⟩ := hcut
        have HA2 := Lib.hid (la_keep hD hQ HA.out hb)
        have HXl := Lib.hid hxl
        clear hb hxl q0 q1 q2 q3 q4 HA
        obtain ⟨r, hr⟩ : ∃ r : Int, r = (xd.toNat : Int) % 8 := ⟨_, rfl⟩
        rw [← hr]
        have hr8 : r < 8 := by omega
        rcases (by omega : r = 0 ∨ r = 1 ∨ (r = 2 ∨ r = 3) ∨ r = 4 ∨ 5 ≤ r) with hq | hq | hq | hq | hq
        all_goals clear hr
        · subst hq
          have h2 := HXl.out.c2
          have h3 := HXl.out.c3
          have h4 := HXl.out.c4
          simp only at h2 h3 h4
          go_wp2_with fail
          refine (step_crash hD hQ HA2.out.both HA2.out.below.size kp tn ct HXk.out.2.1 HXk.out.2.2.1 HXk.out.2.2.2).mono ?_
          rintro e w6 ⟨F', rfl, hst⟩
          have H6 := Lib.hid hst
          clear hst h2 h3 h4 HXl
          go_wp2_with fail
          refine (step_open hD hQ ⟨H6.out.both.d, H6.out.both.flt⟩ (Nat.le_trans HA2.out.below.size H6.out.chg.size) (by rw [Dsk.crash_length, HA2.out.inv.len]; omega) 2 ⟨by omega, by omega⟩).mono ?_
          rintro e wa ⟨n, r, hr, hb, he⟩
          obtain ⟨j', C, l', rfl, rfl, z1, z2, z3, z4, hi⟩ := linv_crash HA2.out.inv kp tn ct hr
          obtain ⟨pk, G', va', vl', rfl, hbo, hG, ht, hli⟩ := he
          have hal := all_keep (all_other (all_stp HA2.out.list H6.out) hG) hb
          have hjk := jok_live hi (open_live hr)
          have hB := below_keep (HA2.out.below.trans H6.out.below) hb
          obtain ⟨a13, c13, rfl, hA13, _⟩ := ht
          obtain ⟨a14, c14, ss14, rfl, m1, m2, m3, m4, m5, m6, _⟩ := hli
          have hn14 : ss14.length = l'.length := by rw [← m6, List.length_map]
          have HLs : Hid (ListB wa (.slice a14 l'.length c14) l') := Lib.hid (by rw [← hn14]; exact ⟨a14, c14, ss14, rfl, m1, m2, m3, m4, m5, m6⟩)
          simp only [beB_length, hn14] at hA13 ⊢
          obtain ⟨b13, o13, rfl⟩ : ∃ b o, a13 = some ⟨b, o, none⟩ := by
            rcases hA13.row with h | ⟨b, o, e, _⟩
            · have := congrArg List.length h; rw [beB_length] at this; cases this
            · exact ⟨b, o, e⟩
          have hrow := hA13.row
          rw [be_low2 C z3] at hrow
          obtain ⟨X0, X1, hX0, hX1⟩ : ∃ X0 X1 : UInt8, X0 = 0 ∧ X1 = UInt8.ofNat C := ⟨_, _, rfl, rfl⟩
          rw [← hX0, ← hX1] at hrow
          have e0 : wa.cell? ⟨b13, o13, none⟩ = some (.int .u8 (X0.toNat : Int)) := row_cell hrow (show 0 < 2 by omega) rfl (i := 0) (by omega)
          have e1 : wa.cell? ⟨b13, o13 + 1, none⟩ = some (.int .u8 (X1.toNat : Int)) := row_cell hrow (show 1 < 2 by omega) rfl (i := 0) (by omega)
          have HX2 := Lib.hid (And.intro e0 (And.intro e1 (And.intro (show (256 * (X0.toNat : Int)) + (X1.toNat : Int) = C by rw [hX0, hX1, u8_of]; simp; omega) (show (X0.toNat : Int) < 256 ∧ (X1.toNat : Int) < 256 by have := X0.toNat_lt; have := X1.toNat_lt; omega))))
          have HC := Lib.hid (And.intro hbo (And.intro hB (And.intro hal (And.intro hi (And.intro hjk z4)))))
          have hsm := HA2.out.small
          have zz1 : ¬ (all.length : Int) < C := by omega
          have zz2 : ¬ (all.length : Int) < C + l'.length := by omega
          have zz3 : ¬ ((C : Int) + l'.length < sure) := by omega
          clear hr hb hG hA13 hrow m1 m2 m3 m4 m5 m6 hn14 e0 e1 hX0 hX1 hbo hB hal hi hjk z4 H6 HA2
          go_wp2_with fail
          refine Rel.wp_region_rel (G := Rel.Gr) (Rel.tab [.is (.slice (some ⟨b13, o13, none⟩) 2 c13), .is (.pointer (some ⟨b13, o13, none⟩)), .is (.int .u8 (X0.toNat : Int)), .is (.int .i64 (X0.toNat : Int)), .is (.int .i64 (256 * (X0.toNat : Int))), .is (.slice (some ⟨b13, o13, none⟩) 2 c13), .is (.pointer (some ⟨b13, o13 + 1, none⟩)), .is (.int .u8 (X1.toNat : Int)), .is (.int .i64 (X1.toNat : Int)), .is (.int .i64 (C : Nat)), .is (.int .i64 (C : Nat))]) (fun _ w => Below wa.heap.size wa w) (by kernel_rfl) (by kernel_rfl) (by kernel_rfl) (by kernel_rfl) (fun w => Rel.gr_refl _) (below_drew _) ?_ ?_
          · refine ⟨?_, ?_, ?_, ?_, ?_, ?_, ?_, ?_, ?_, ?_, ?_, trivial⟩
            · intro L a w c
              refine .inl ⟨Rel.wanted_free (by kernel_rfl) _, ?_⟩
              exact Rel.wp_mv _ rfl ⟨_, rfl, Rel.gr_refl _, (c.old 13 (v := .slice (some ⟨b13, o13, none⟩) 2 c13) (by kernel_rfl) (by kernel_rfl)), c.inv⟩
            · intro L a w c
              refine .inl ⟨Rel.wanted_free (by kernel_rfl) _, ?_⟩
              exact Rel.wp_ia _ _ _ rfl (c.get 0 95 (by kernel_rfl)) rfl (run_at_b b13 o13 _ c13 0 (by omega) w) ⟨_, rfl, Rel.gr_refl _, rfl, c.inv⟩
            · intro L a w c
              refine .inl ⟨Rel.wanted_free (by kernel_rfl) _, ?_⟩
              exact Rel.wp_ld _ _ rfl (c.get 1 96 (by kernel_rfl)) (run_ld_byte (cell_keep c.inv HX2.out.1)) ⟨_, rfl, Rel.gr_refl _, rfl, c.inv⟩
            · intro L a w c
              refine .inl ⟨Rel.wanted_free (by kernel_rfl) _, ?_⟩
              exact Rel.wp_cv _ _ _ rfl (c.get 2 97 (by kernel_rfl)) (run_cv_byte X0 w) ⟨_, rfl, Rel.gr_refl _, rfl, c.inv⟩
            · intro L a w c
              refine .inl ⟨Rel.wanted_free (by kernel_rfl) _, ?_⟩
              exact Rel.wp_bo _ _ _ _ _ rfl (u := .int .i64 (256 * (X0.toNat : Int))) rfl (c.get 3 98 (by kernel_rfl)) (by have := HX2.out.2.2.2; simp [go_sem, IntKind.wrap_i64]; omega) ⟨_, rfl, Rel.gr_refl _, rfl, c.inv⟩
            · intro L a w c
              refine .inl ⟨Rel.wanted_free (by kernel_rfl) _, ?_⟩
              exact Rel.wp_mv _ rfl ⟨_, rfl, Rel.gr_refl _, (c.old 13 (v := .slice (some ⟨b13, o13, none⟩) 2 c13) (by kernel_rfl) (by kernel_rfl)), c.inv⟩
            · intro L a w c
              refine .inl ⟨Rel.wanted_free (by kernel_rfl) _, ?_⟩
              exact Rel.wp_ia _ _ _ rfl (c.get 5 100 (by kernel_rfl)) rfl (run_at_b b13 o13 _ c13 1 (by omega) w) ⟨_, rfl, Rel.gr_refl _, rfl, c.inv⟩
            · intro L a w c
              refine .inl ⟨Rel.wanted_free (by kernel_rfl) _, ?_⟩
              exact Rel.wp_ld _ _ rfl (c.get 6 101 (by kernel_rfl)) (run_ld_byte (cell_keep c.inv HX2.out.2.1)) ⟨_, rfl, Rel.gr_refl _, rfl, c.inv⟩
            · intro L a w c
              refine .inl ⟨Rel.wanted_free (by kernel_rfl) _, ?_⟩
              exact Rel.wp_cv _ _ _ rfl (c.get 7 102 (by kernel_rfl)) (run_cv_byte X1 w) ⟨_, rfl, Rel.gr_refl _, rfl, c.inv⟩
            · intro L a w c
              refine .inl ⟨Rel.wanted_free (by kernel_rfl) _, ?_⟩
              exact Rel.wp_bo _ _ _ _ _ rfl (u := .int .i64 (C : Nat)) (c.get 4 99 (by kernel_rfl)) (c.get 8 103 (by kernel_rfl)) (by rw [← HX2.out.2.2.1]; have := HX2.out.2.2.2; simp [go_sem, IntKind.wrap_i64]; omega) ⟨_, rfl, Rel.gr_refl _, rfl, c.inv⟩
            · intro L a w c
              refine .inl ⟨Rel.wanted_free (by kernel_rfl) _, ?_⟩
              exact Rel.wp_as _ rfl ⟨_, rfl, Rel.gr_refl _, (c.get 9 104 (by kernel_rfl)), c.inv⟩
          intro a w9 hbase hroom hdef hJ hV
          have s16 : Rel.slot a 16 = .int .i64 (C : Nat) := hV 10 _ _ rfl rfl
          rw [Chn.act_puts [95, 96, 97, 98, 99, 100, 101, 102, 103, 104, 16] hbase hroom hdef (by kernel_rfl)]
          clear hbase hroom hdef hV
          simp only [List.foldl_cons, List.foldl_nil]
          generalize Rel.slot a 95 = u95 at *
          generalize Rel.slot a 96 = u96 at *
          generalize Rel.slot a 97 = u97 at *
          generalize Rel.slot a 98 = u98 at *
          generalize Rel.slot a 99 = u99 at *
          generalize Rel.slot a 100 = u100 at *
          generalize Rel.slot a 101 = u101 at *
          generalize Rel.slot a 102 = u102 at *
          generalize Rel.slot a 103 = u103 at *
          generalize Rel.slot a 104 = u104 at *
          rw [s16]
          clear s16
          simp only [Act.put, List.setIfInBounds_toArray, List.set_cons_succ, List.set_cons_zero]
          have hbo9 := both_keep hD hQ HC.out.1 hJ
          have HC9 := Lib.hid (And.intro hbo9 (And.intro (below_keep HC.out.2.1 hJ) (And.intro (all_keep HC.out.2.2.1 hJ) (And.intro HC.out.2.2.2 (list_keep HLs.out hJ)))))
          clear hJ hbo9 HC HLs
          go_upto_region 23 with fail
          go_cut [137] (fun v wx => v = .bool false ∧ Below w9.heap.size w9 wx)
          case first =>
            go_wp2_with fail
            all_goals
              first
                | have hcc : c = C := h
                  clear h
                  subst hcc
                  refine (texts_yes _ _ l' ((all.drop c).take l'.length) w9 HC9.out.2.2.2.2 (all_part2 HC9.out.2.2.1 HC9.out.2.1 c l'.length z1 hgc rfl) HC9.out.2.2.2.1.2.2).mono ?_
                | have hcc : ¬ c = C := h
                  clear h
                  refine (texts_yes _ _ l' ((all.drop C).take l'.length) w9 HC9.out.2.2.2.2 (all_part HC9.out.2.2.1 HC9.out.2.1 C l'.length z1) HC9.out.2.2.2.1.2.2).mono ?_
              rintro e w10 ⟨rfl, hb⟩
              have HB10 := Lib.hid hb
              clear hb
              go_wp2_with fail
              go_meet
              case rel => exact ⟨by first | rfl | (simp only [Value.bool.injEq, Bool.or_eq_false_iff, decide_eq_false_iff_not]; omega), HB10.out⟩
          case rest =>
          obtain ⟨rfl, hb⟩ := hcut
          have hal := all_keep HC9.out.2.2.1 hb
          obtain ⟨ss, ho, hgg, hok, hmap⟩ := hal
          have hss : ss.length = all.length := by rw [← hmap, List.length_map]
          have H10 := Lib.hid (And.intro (both_keep hD hQ HC9.out.1 hb) (And.intro (below_keep HC9.out.2.1 hb) (And.intro hok (And.intro hmap (And.intro hss (all_rows ho))))))
          have HI := Lib.hid (And.intro HC9.out.2.2.2.1.1 HC9.out.2.2.2.1.2.1)
          clear hb ho hgg hok hmap hss HC9
          go_wp2_with (first
            | (at_builtin; refine Two.append_apart encV_len (by decide) encV_one rfl (.tmp 138) (.tmp 144) 29 27 rfl Try.underlying29 (.slice none 0 0) 24 info_sv rfl W.heap.size (.slice (some ⟨wc.heap.size, 0, none⟩) 0 0) [] rfl (World.ownsRow_made wc #[] 0 H10.out.2.1.size (by unfold maxLen; omega) rfl) (some ⟨g, 0, none⟩) (C + l'.length) c (ss.take (C + l'.length)) rfl (by rw [List.length_take, H10.out.2.2.2.2.1]; omega) (row_keep encV_len (row_take H10.out.2.2.2.2.2 _) (below_alloc wc _)) (fun h => by cases h) (by simp; unfold maxLen; omega) (by simp; omega) (Nat.le_trans H10.out.2.1.size (by simp)) ?_; intro v9 w11 ho9 hg9 hw9
               have hP := la_cut hD hQ (C + l'.length) H10.out.1 H10.out.2.1 H10.out.2.2.1 H10.out.2.2.2.1 ho9 hg9 hw9
               obtain ⟨g9, c9, rfl, _, _⟩ := all_form hP.2.2
               have hl9 : (all.take (C + l'.length)).length = C + l'.length := by rw [List.length_take]; omega
               rw [hl9] at hP ⊢
               have HP := Lib.hid hP
               have HL9 := Lib.hid hl9
               clear ho9 hg9 hw9 hP hl9)
            | fail)
          go_roundw
          case rel => exact ⟨k + 1, C + l'.length, pk, all.take (C + l'.length), j', _, F', G', by omega, by omega, by go_num, rfl, rfl, rfl, ⟨HP.out.1, HP.out.2.1, HP.out.2.2, linv_more HI.out.1 (by omega) (by omega), HI.out.2, by rw [HL9.out]; omega⟩⟩
          case measure => simp [intOf]; omega
        · subst hq
          have h4 := HXl.out.c4
          simp only at h4
          go_wp2_with fail
          refine (step_fuse hD hQ HA2.out.both HA2.out.below.size _ ⟨by omega, by omega⟩).mono ?_
          rintro e w6 ⟨F', rfl, hst⟩
          have HL := Lib.hid (la_stp HA2.out hst (linv_more (linv_fuse HA2.out.inv rfl rfl (Dsk.fuse_ok HA2.out.inv.ok _)) (by omega) (by omega)) HA2.out.jok)
          clear hst HA2 HXl h4
          go_wp2_with fail
          go_roundw
          case rel => exact ⟨k + 1, sure, pj, all, j, _, F', G, by omega, by omega, by go_num, rfl, rfl, rfl, HL.out⟩
          case measure => simp [intOf]; omega
        · rcases hq with rfl | rfl
          all_goals
            go_wp2_with fail
            refine (step_commit hQ HA2.out.both HA2.out.below.size (by rw [HA2.out.inv.len]; omega) (by rw [HA2.out.inv.len]; exact HA2.out.jok)).mono ?_
            rintro e w6 ⟨n, j', s', F', rfl, hr, hst⟩
            have hj' := jok_co HA2.out.jok hr
            rcases linv_commit HA2.out.inv (by omega) hr with ⟨rfl, hi⟩ | ⟨hne, hi⟩
            · have HL := Lib.hid (la_stp HA2.out hst hi hj')
              clear hr hst hj' hi HA2 HXl
              go_wp2_with fail
              go_roundw
              case rel => exact ⟨k + 1, all.length, pj, all, j', s', F', G, by omega, by omega, by go_num, rfl, rfl, rfl, HL.out⟩
              case measure => simp [intOf]; omega
            · have HL := Lib.hid (la_stp HA2.out hst hi hj')
              have hnz : ¬ (n : Int) = 0 := by omega
              clear hr hst hj' hi HA2 HXl hne
              go_wp2_with fail
              go_roundw
              case rel => exact ⟨k + 1, sure, pj, all, j', s', F', G, by omega, by omega, by go_num, rfl, rfl, rfl, HL.out⟩
              case measure => simp [intOf]; omega
        · subst hq
          have hsm := HA2.out.small
          go_wp2_with fail
          refine (count_any all.length (by omega) wc).mono ?_
          rintro e w6 ⟨rfl, hrow, hb⟩
          have HA3 := Lib.hid (And.intro (la_keep hD hQ HA2.out hb) hrow)
          have HFr : Hid (¬ F wc.heap.size ∧ ¬ G wc.heap.size) := Lib.hid ⟨fun h => absurd (HA2.out.both.flt _ h).2 (Nat.lt_irrefl _), fun h => absurd (HA2.out.both.glt _ h).2 (Nat.lt_irrefl _)⟩
          clear hrow hb HA2 HXl
          go_wp2_with fail
          refine (step_checkpoint hQ HA3.out.1.both HA3.out.1.below.size (by rw [HA3.out.1.inv.len]; omega) (by rw [HA3.out.1.inv.len]; exact HA3.out.1.jok) (linv_seen HA3.out.1.inv) (some ⟨wc.heap.size, 0, none⟩) 2 2 (beB 2 all.length) ⟨beB_length _ _, Nat.le_refl _, by unfold maxLen; omega, (fun h => by cases h), HA3.out.2⟩ (by omega) (fun _ q hq => by injection hq with hq; subst hq; exact HFr.out)).mono ?_
          rintro e w7 ⟨n, j', s', F', rfl, hr, hst⟩
          have hj' := jok_ck HA3.out.1.jok hr
          rcases linv_checkpoint HA3.out.1.inv (by omega) hr with ⟨rfl, hi⟩ | ⟨hne, hi⟩
          · have HL := Lib.hid (la_stp HA3.out.1 hst hi hj')
            clear hr hst hj' hi HA3 HFr
            go_wp2_with fail
            go_roundw
            case rel => exact ⟨k + 1, all.length, pj, all, j', s', F', G, by omega, by omega, by go_num, rfl, rfl, rfl, HL.out⟩
            case measure => simp [intOf]; omega
          · have HL := Lib.hid (la_stp HA3.out.1 hst hi hj')
            have hnz : ¬ (n : Int) = 0 := by omega
            clear hr hst hj' hi HA3 HFr hne
            go_wp2_with fail
            go_roundw
            case rel => exact ⟨k + 1, sure, pj, all, j', s', F', G, by omega, by omega, by go_num, rfl, rfl, rfl, HL.out⟩
            case measure => simp [intOf]; omega
        · have h1 := HXl.out.c1
          simp only [Sv.val] at h1
          have hsm := HA2.out.small
          have HSv := Lib.hid (show SvOk W ⟨a3, n3, c3, l3⟩ from HXk.out.1)
          obtain ⟨l4, hl4⟩ : ∃ y, y = l3.take 60 := ⟨_, rfl⟩
          obtain ⟨m, hm⟩ : ∃ y, y = l4.length := ⟨_, rfl⟩
          have hcl : l4.length ≤ 60 := by rw [hl4, List.length_take]; omega
          have hcm : m ≤ 60 := by omega
          have HL4 := Lib.hid (And.intro hl4 hm)
          have HCl := Lib.hid hcl
          have HS4 := Lib.hid (cut_ok HSv.out hl4 hm)
          clear hl4 hm hcl
          go_wp2_with fail
          refine Calls.mono (show Calls Try.prog 17 #[.slice a3 n3 c3, .int .i64 60] wc _ from short_is a3 n3 c3 m l3 l4 (sv_keep HSv.out HA2.out.below) HL4.out.1 HL4.out.2) ?_
          rintro e w6 ⟨rfl, rfl⟩
          go_wp2_with fail
          refine (step_append hQ HA2.out.both HA2.out.below.size (by rw [HA2.out.inv.len]; omega) (by rw [HA2.out.inv.len]; exact HA2.out.jok) a3 m c3 l4 (arg_keep HS4.out HA2.out.below) (by omega) (args_apart HS4.out HA2.out.both)).mono ?_
          rintro e w7 ⟨n, j', s', F', rfl, hr, hst⟩
          have hj' := jok_ap HA2.out.jok HA2.out.inv.len hr
          rcases linv_append HA2.out.inv (by omega) HCl.out hr with ⟨hne, hi⟩ | ⟨⟨hne, hne2⟩, hi⟩
          · have hal := all_stp HA2.out.list hst
            have h1' := (xl_stp HXl.out hst).c1
            simp only [Sv.val] at h1'
            have hB7 := HA2.out.below.trans hst.below
            obtain ⟨ss, ho, hgg, hok, hmap⟩ := hal
            have hss : ss.length = all.length := by rw [← hmap, List.length_map]
            have H7 := Lib.hid (And.intro hst.both (And.intro hB7 (And.intro ho (And.intro hgg (And.intro hok (And.intro hmap hss))))))
            have HI := Lib.hid (And.intro hi hj')
            clear hr hst hj' hi HA2 HXl h1 hB7 ho hgg hok hmap hss
            rcases hne with rfl | rfl
            all_goals
              go_wp2_with fail
              refine Calls.mono (show Calls Try.prog 17 #[.slice a3 n3 c3, .int .i64 60] w7 _ from short_is a3 n3 c3 m l3 l4 (sv_keep HSv.out H7.out.2.1) HL4.out.1 HL4.out.2) ?_
              rintro e w8 ⟨rfl, rfl⟩
              have hown := owns_alloc H7.out.2.2.1 (Obj.cells #[Value.slice a3 m c3] 27)
              have hrw : Kit.Row encV 1 (w7.alloc (Obj.cells #[Value.slice a3 m c3] 27)) (some ⟨w7.heap.size, 0, none⟩) [⟨a3, m, c3, l4⟩] := Kit.row_new encV_len w7 [⟨a3, m, c3, l4⟩] _ _ _ rfl rfl
              have h63 : ss.length + 1 ≤ maxLen := by rw [H7.out.2.2.2.2.2.2]; unfold maxLen; omega
              have hby : (ss.length + 1) * 24 ≤ 140737488355328 := by rw [H7.out.2.2.2.2.2.2]; omega
              have hbs : W.heap.size ≤ (w7.alloc (Obj.cells #[Value.slice a3 m c3] 27)).heap.size := Nat.le_trans H7.out.2.1.size (by simp)
              have HA9 := Lib.hid (And.intro hown (And.intro hrw (And.intro h63 (And.intro hby hbs))))
              have HT9 := Lib.hid (fun (v9 : Value) (w9 : World) ho9 hg9 hw9 => la_push (x := ⟨a3, m, c3, l4⟩) (v' := v9) (w' := w9) (o := Obj.cells #[Value.slice a3 m c3] 27) hD hQ H7.out.1 H7.out.2.1 H7.out.2.2.1 H7.out.2.2.2.1 H7.out.2.2.2.2.1 H7.out.2.2.2.2.2.1 HS4.out ho9 hg9 hw9)
              clear hown hrw h63 hby hbs
              go_wp2_with (first | (at_builtin; refine Two.append_apart encV_len Nat.zero_lt_one encV_one rfl (.tmp 65) (.tmp 69) 29 27 rfl Try.underlying29 (.slice none 0 0) 24 info_sv rfl W.heap.size (.slice (some ⟨g, 0, none⟩) all.length c) ss rfl HA9.out.1 (some ⟨w7.heap.size, 0, none⟩) 1 1 [⟨a3, m, c3, l4⟩] rfl rfl HA9.out.2.1 (fun h => by cases h) HA9.out.2.2.1 HA9.out.2.2.2.1 HA9.out.2.2.2.2 ?_; intro v9 w9 ho9 hg9 hw9; have HP := Lib.hid (HT9.out v9 w9 ho9 hg9 hw9); clear ho9 hg9 hw9 HA9 HT9) | fail)
              go_roundw
              case rel => exact ⟨k + 1, sure, pj, all ++ [l4], j', s', F', G, by omega, by omega, by go_num, rfl, rfl, rfl, ⟨HP.out.1, HP.out.2.1, HP.out.2.2, HI.out.1, HI.out.2, by rw [List.length_append, List.length_singleton]; omega⟩⟩
              case measure => simp [intOf]; omega
          · have HL := Lib.hid (la_stp HA2.out hst hi hj')
            have hnz : ((n : Int) == 0) = false := beq_false_of_ne (by omega)
            have hnz2 : ((n : Int) == 10) = false := beq_false_of_ne (by omega)
            clear hr hst hj' hi HA2 HXl hne hne2 h1
            go_wp2_with fail
            go_roundw
            case rel => exact ⟨k + 1, sure, pj, all, j', s', F', G, by omega, by omega, by go_num, rfl, rfl, rfl, HL.out⟩
            case measure => simp [intOf]; omega
    · have hor : ¬ (k : Int) < l.length ∨ ((k : Int) < l.length ∧ ¬ (k : Int) < 60) := by omega
      clear hlt
      rcases hor with ho | ⟨ho, ho2⟩
      all_goals
        go_wp2_with fail
        refine (awake_any hD hQ wr).mono ?_
        rintro e w6 ⟨rfl, hb⟩
        have HB6 := Lib.hid (below_keep HA.out.below hb)
        clear hb
        go_wp2
        go_ret
        exact ⟨rfl, HB6.out⟩
end Go.Proofs.Ytdgfoldobofgoaa.Jrn
/- Journal: the landed journal, as it lies in memory; its small calls; a disk's sectors read. -/
namespace Go.Proofs.Ytdgfoldobofgoaa.Jrn
set_option maxRecDepth 100000
open Go.RowKit
open Go.Sort
open Kit
open Oct
open Chk
open Frm
open Foot
open Dsk (Sec DS mix mix_at mix_length mix_whole mix_none RdB)
set_option linter.unusedVariables false
variable {D : World → (Nat → Prop) → Nat → DS → Prop}
variable {w w' : World} {F G : Nat → Prop} {p pj : Nat} {s : DS} {j : JS}

/-! ### In memory -/

def encJ (p : Nat) (j : JS) : List Value := [.pointer (some ⟨p, 0, none⟩), .int .i64 (j.slot : Nat), .int .i64 (j.epoch : Nat), .int .i64 (j.seq : Nat), .int .i64 (j.next : Nat), .bool j.opened, .bool j.down]
def Jr (w : World) (G : Nat → Prop) (pj p : Nat) (j : JS) : Prop := Arr.Blk w pj 61 (encJ p j) ∧ G pj
theorem jr_chg (h : Jr w F pj p j) (hC : Chg G w w') (ha : ∀ k, F k → ¬ G k) : Jr w' F pj p j := ⟨blk_chg hC h.1 (ha _ h.2), h.2⟩
theorem jr_keep (h : Jr w F pj p j) (hb : Below w.heap.size w w') : Jr w' F pj p j := jr_chg h (new_chg hb (fun _ => False)) (fun _ _ => id)
structure JC (w : World) (pj p : Nat) (j : JS) : Prop where
  c0 : w.cell? ⟨pj, 0, none⟩ = some (.pointer (some ⟨p, 0, none⟩))
  c1 : w.cell? ⟨pj, 1, none⟩ = some (.int .i64 (j.slot : Nat))
  c2 : w.cell? ⟨pj, 2, none⟩ = some (.int .i64 (j.epoch : Nat))
  c3 : w.cell? ⟨pj, 3, none⟩ = some (.int .i64 (j.seq : Nat))
  c4 : w.cell? ⟨pj, 4, none⟩ = some (.int .i64 (j.next : Nat))
  c5 : w.cell? ⟨pj, 5, none⟩ = some (.bool j.opened)
  c6 : w.cell? ⟨pj, 6, none⟩ = some (.bool j.down)
theorem jr_cells (h : Jr w G pj p j) : JC w pj p j := by
  have c := fun i => Arr.blk_cell h.1 i
  exact ⟨c 0, c 1, c 2, c 3, c 4, c 5, c 6⟩
theorem d_keep (hD : Dsk.Prog D) (h : D w F p s) (hb : Below w.heap.size w w') : D w' F p s := hD.chg h (new_chg hb (fun _ => False)) (fun _ _ => id)

/-! ### Small calls -/

theorem jseq_any (h : Jr w G pj p j) : Calls Try.prog 19 #[.pointer (some ⟨pj, 0, none⟩)] w fun e w' => e = .returned (.int .i64 (j.seq : Nat)) ∧ Below w.heap.size w w' := by
  have c := (jr_cells h).c3
  clear h
  go_enter Try.func19, Try.ntmps19
  go_wp2
  go_ret
  exact ⟨rfl, Below.refl _ _⟩
theorem jepoch_any (h : Jr w G pj p j) : Calls Try.prog 20 #[.pointer (some ⟨pj, 0, none⟩)] w fun e w' => e = .returned (.int .i64 (j.epoch : Nat)) ∧ Below w.heap.size w w' := by
  have c := (jr_cells h).c2
  clear h
  go_enter Try.func20, Try.ntmps20
  go_wp2
  go_ret
  exact ⟨rfl, Below.refl _ _⟩
theorem jseq_nil (w : World) : Calls Try.prog 19 #[.pointer none] w fun e w' => e = .returned (.int .i64 0) ∧ Below w.heap.size w w' := by
  go_enter Try.func19, Try.ntmps19
  go_wp2
  go_ret
  exact ⟨rfl, Below.refl _ _⟩
theorem jepoch_nil (w : World) : Calls Try.prog 20 #[.pointer none] w fun e w' => e = .returned (.int .i64 0) ∧ Below w.heap.size w w' := by
  go_enter Try.func20, Try.ntmps20
  go_wp2
  go_ret
  exact ⟨rfl, Below.refl _ _⟩
theorem jroom_nil (w : World) : Calls Try.prog 21 #[.pointer none] w fun e w' => e = .returned (.int .i64 0) ∧ Below w.heap.size w w' := by
  go_enter Try.func21, Try.ntmps21
  go_wp2
  go_ret
  exact ⟨rfl, Below.refl _ _⟩
/-- May records be appended, and committed? -/
def readyN (j : JS) : Nat := if j.down then 10 else if j.opened then 0 else 9
theorem jready_any (h : Jr w G pj p j) : Calls Try.prog 30 #[.pointer (some ⟨pj, 0, none⟩)] w fun e w' => e = .returned (.int .i64 (readyN j : Nat)) ∧ w = w' := by
  have c5 := (jr_cells h).c5
  have c6 := (jr_cells h).c6
  unfold readyN
  clear h
  generalize j.down = d at *
  generalize j.opened = o at *
  cases d <;> cases o
  all_goals
    go_enter Try.func30, Try.ntmps30
    go_wp2
    go_ret
    exact ⟨rfl, rfl⟩
theorem jready_nil (w : World) : Calls Try.prog 30 #[.pointer none] w fun e w' => e = .returned (.int .i64 1) ∧ w = w' := by
  go_enter Try.func30, Try.ntmps30
  go_wp2
  go_ret
  exact ⟨rfl, rfl⟩

/-! ### Has a disk two places, and at least one sector more? -/

theorem places_any (hD : Dsk.Prog D) (h : D w F p s) (slot : Int) (hs : inI slot) : Calls Try.prog 23 #[.pointer (some ⟨p, 0, none⟩), .int .i64 slot] w fun e w' => e = .returned (.bool (decide (partOk s.good.length slot))) ∧ Below w.heap.size w w' := by
  have hsm := (hD.ok h).small
  have HD := Lib.hid h
  clear h
  obtain ⟨n, hn⟩ : ∃ n, n = s.good.length := ⟨_, rfl⟩
  have HN := Lib.hid hn
  rw [← hn] at hsm ⊢
  clear hn
  by_cases h1 : 1 ≤ slot
  · by_cases h2 : slot ≤ n
    · have hm1 : -9223372036854775808 ≤ 2 * slot := by omega
      have hm2 : 2 * slot ≤ 9223372036854775807 := by omega
      by_cases h3 : 2 * slot < n
      all_goals
        first
          | have hd : Hid (decide (partOk n slot) = true) := Lib.hid (decide_eq_true ⟨h1, h3⟩)
          | have hd : Hid (decide (partOk n slot) = false) := Lib.hid (decide_eq_false fun h => h3 h.2)
        go_enter Try.func23, Try.ntmps23
        go_wp2_with fail
        refine (hD.size HD.out).mono ?_
        rintro e w1 ⟨rfl, hb⟩
        rw [← HN.out]
        have HB := Lib.hid hb
        clear hb
        go_wp2_with fail
        refine (hD.size (d_keep hD HD.out HB.out)).mono ?_
        rintro e w2 ⟨rfl, hb⟩
        rw [← HN.out]
        have HB2 := Lib.hid (below_keep HB.out hb)
        clear hb
        go_wp2_with fail
        go_ret
        exact ⟨by rw [hd.out]; first | rfl | (refine ret_bool ?_; first | exact decide_eq_true (by omega) | exact decide_eq_false (by omega)), HB2.out⟩
    · have hd : Hid (decide (partOk n slot) = false) := Lib.hid (decide_eq_false fun h => h2 (by have := h.2; omega))
      go_enter Try.func23, Try.ntmps23
      go_wp2_with fail
      refine (hD.size HD.out).mono ?_
      rintro e w1 ⟨rfl, hb⟩
      rw [← HN.out]
      have HB := Lib.hid hb
      clear hb
      go_wp2_with fail
      go_ret
      exact ⟨by rw [hd.out]; first | rfl | exact ret_bool (decide_eq_false (by omega)), HB.out⟩
  · have hd : Hid (decide (partOk n slot) = false) := Lib.hid (decide_eq_false fun h => h1 h.1)
    go_enter Try.func23, Try.ntmps23
    go_wp2_with fail
    go_ret
    exact ⟨by rw [hd.out]; first | rfl | exact ret_bool (decide_eq_false (by omega)), Below.refl _ _⟩

/-! ### Sectors read -/

def part (c : List Sec) (a b : Nat) : List Sec := (c.drop a).take (b - a)
theorem part_nil (c : List Sec) (a : Nat) : part c a a = [] := by simp [part]
theorem part_snoc {c : List Sec} {a b : Nat} (hab : a ≤ b) (hb : b < c.length) : part c a (b + 1) = part c a b ++ [c.getD b []] := by
  have e : b + 1 - a = (b - a) + 1 := by omega
  have hl : b - a < (c.drop a).length := by rw [List.length_drop]; omega
  unfold part
  rw [e, List.take_succ_eq_append_getElem hl, List.getElem_drop, Dsk.getD_at hb]
  congr 2
  have : a + (b - a) = b := by omega
  simp [this]
theorem part_length {c : List Sec} {a b : Nat} (hab : a ≤ b) (hb : b ≤ c.length) : (part c a b).length = b - a := by unfold part; rw [List.length_take, List.length_drop]; omega
theorem part_32 {c : List Sec} (h : ∀ x ∈ c, x.length = 32) (a b : Nat) : ∀ x ∈ part c a b, x.length = 32 := fun x hx => h x (List.mem_of_mem_drop (List.mem_of_mem_take hx))
theorem read_is {s : DS} {k : Nat} (h : k < s.good.length) : s.read (k : Nat) = (s.now.getD k [], 0) := by unfold DS.read; rw [if_pos ⟨by omega, by omega⟩, Int.toNat_natCast]

set_option maxHeartbeats 4000000 in
theorem jread_any (hD : Dsk.Prog D) (h : D w F p s) (a b : Nat) (hab : a ≤ b) (hb : b ≤ s.good.length) : Calls Try.prog 27 #[.pointer (some ⟨p, 0, none⟩), .int .i64 (a : Nat), .int .i64 (b : Nat)] w fun e w' => ∃ v, e = .returned v ∧ NewB w' w.heap.size v (part s.now a b).flatten ∧ Below w.heap.size w w' := by
  have hok := hD.ok h
  have hsm := hok.small
  have hnl := hok.len
  have hb10 : b ≤ 1024 := by omega
  have HD := Lib.hid (And.intro h hok)
  clear h hok
  go_enter Try.func27, Try.ntmps27
  go_wp2_with fail
  go_loopw [7, 8] (fun v i wr => ∃ k : Nat, a ≤ k ∧ k ≤ b ∧ i = .int .i64 (k : Nat) ∧ OwnB wr w.heap.size v (part s.now a k).flatten ∧ Below w.heap.size w wr) (fun _ i _ => b - (intOf i).toNat)
  case atStart => exact ⟨a, Nat.le_refl _, hab, rfl, by rw [part_nil]; exact owns_nil _ _ _, Below.refl _ _⟩
  case round =>
    obtain ⟨k, hak, hkb, rfl, hown, hbel⟩ := hrel
    by_cases hlt : k < b
    · have HO := Lib.hid (And.intro hown hbel)
      clear hown hbel
      go_wp2_with fail
      refine (hD.read (d_keep hD HD.out.1 HO.out.2) (k : Nat) ⟨by omega, by omega⟩).mono ?_
      rintro e w1 ⟨v1, rfl, hr, hb1⟩
      rw [read_is (by omega)] at hr ⊢
      obtain ⟨ad, cd, rfl, d1, d2, d3, d4⟩ := Dsk.rd_row hr
      have hl1 : (s.now.getD k []).length = 32 := HD.out.2.now32 _ (Dsk.getD_mem (by omega))
      have hpl : (part s.now a k).flatten.length = 32 * (k - a) := by rw [flat_length32 _ (part_32 HD.out.2.now32 a k), part_length hak (by omega)]
      have hps : (part s.now a (k + 1)).flatten = (part s.now a k).flatten ++ s.now.getD k [] := by rw [part_snoc hak (by omega), List.flatten_append]; simp
      have hown1 := own_keep HO.out.1 hb1
      have hB1 := below_keep HO.out.2 hb1
      rw [hl1]
      simp only [hl1] at d1
      obtain ⟨a0, c0, rfl, g1, g2, g3, g4⟩ := own_row hown1
      rw [hpl] at hown1 ⊢
      obtain ⟨L, hL⟩ : ∃ L, L = (part s.now a k).flatten := ⟨_, rfl⟩
      obtain ⟨M, hM⟩ : ∃ M, M = s.now.getD k [] := ⟨_, rfl⟩
      obtain ⟨n, hn⟩ : ∃ n, n = 32 * (k - a) := ⟨_, rfl⟩
      rw [← hL] at hps hpl hown1
      rw [← hM] at hps d4 hl1
      rw [← hn] at hpl hown1 ⊢
      have hn9 : n ≤ 40000 := by omega
      have HA := Lib.hid (And.intro hown1 (And.intro hB1 (And.intro hps (And.intro d4 (And.intro (show ad = none → 32 = 0 ∧ cd = 0 from fun e => by have := d3 e; omega) (And.intro (show L.length + 32 ≤ maxLen by unfold maxLen; omega) (And.intro (show (L.length + 32) * 1 ≤ 140737488355328 by omega) (And.intro hB1.size hl1))))))))
      clear hr d2 d3 d4 hpl hps hown1 hB1 g1 g2 g3 g4 hL hM hn HO hl1
      go_wp2_with (first | (at_builtin; refine Two.append_apart encB_len Nat.zero_lt_one encB_one rfl (.tmp 23) (.tmp 24) 27 5 rfl Try.underlying27 (.int .u8 0) 1 info8 rfl w.heap.size (.slice a0 n c0) L rfl HA.out.1 ad 32 cd M rfl HA.out.2.2.2.2.2.2.2.2 HA.out.2.2.2.1 HA.out.2.2.2.2.1 HA.out.2.2.2.2.2.1 HA.out.2.2.2.2.2.2.1 HA.out.2.2.2.2.2.2.2.1 ?_; intro v9 w9 ho9 hg9 _; have HP := Lib.hid (show OwnB w9 w.heap.size v9 (part s.now a (k + 1)).flatten ∧ Below w.heap.size w w9 from ⟨by rw [HA.out.2.2.1]; exact ho9, HA.out.2.1.trans (Two.below_grown HA.out.1 hg9 HA.out.2.1.size)⟩); clear ho9 hg9 HA) | fail)
      go_roundw
      case rel => exact ⟨k + 1, by omega, by omega, by go_num, HP.out.1, HP.out.2⟩
      case measure => simp [intOf]; omega
    · obtain rfl : k = b := by omega
      have HO := Lib.hid (And.intro hown hbel)
      clear hown hbel
      go_wp2_with fail
      go_ret
      exact ⟨_, rfl, new_own HO.out.1, HO.out.2⟩
end Go.Proofs.Ytdgfoldobofgoaa.Jrn
/- Journal: the landed write; the disk's last epoch. -/
namespace Go.Proofs.Ytdgfoldobofgoaa.Jrn
set_option maxRecDepth 100000
open Go.RowKit
open Go.Sort
open Kit
open Oct
open Chk
open Frm
open Foot
open Dsk (Sec DS mix mix_at mix_length mix_whole mix_none RdB)
set_option linter.unusedVariables false
variable {D : World → (Nat → Prop) → Nat → DS → Prop}
variable {w w' : World} {F G : Nat → Prop} {p pj : Nat} {s : DS} {j : JS}

theorem over_nil (n : List Sec) (a : Nat) : over n a [] = n := by unfold over; simp
theorem over_snoc {n cs : List Sec} {a k : Nat} (hk : k < cs.length) (h : a + cs.length ≤ n.length) : over n a (cs.take (k + 1)) = (over n a (cs.take k)).set (a + k) (cs.getD k []) := by
  have hl : ∀ m, m ≤ cs.length → (cs.take m).length = m := fun m hm => by rw [List.length_take]; omega
  apply List.ext_getElem?
  intro i
  rw [over_at (by rw [hl _ (by omega)]; omega), List.getElem?_set, over_length (by rw [hl _ (by omega)]; omega), over_at (by rw [hl _ (by omega)]; omega), hl _ (by omega), hl _ (by omega)]
  by_cases h1 : a + k = i
  · rw [if_pos h1, if_neg (by omega), if_pos (by omega), if_pos (by omega), List.getElem?_take_of_lt (by omega), Dsk.getD_at hk, List.getElem?_eq_getElem (by omega)]
    have : i - a = k := by omega
    simp [this]
  · rw [if_neg h1]
    by_cases h2 : i < a
    · rw [if_pos h2, if_pos h2]
    · rw [if_neg h2, if_neg h2]
      by_cases h3 : i < a + k
      · rw [if_pos (by omega), if_pos h3, List.getElem?_take_of_lt (by omega), List.getElem?_take_of_lt (by omega)]
      · rw [if_neg (by omega), if_neg h3]
theorem write_ok {s : DS} {i : Nat} {b : Sec} (hi : i < s.good.length) (hb : b.length = 32) : (s.fuse = 0 ∧ s.write (i : Nat) b = (10, s)) ∨ (s.fuse ≠ 0 ∧ (s.write (i : Nat) b).1 = 0 ∧ (s.write (i : Nat) b).2.good = s.good ∧ (s.write (i : Nat) b).2.now = s.now.set i b ∧ (s.write (i : Nat) b).2.fuse = Dsk.burnt s.fuse) := by
  have hr : ¬ ¬ (Dsk.inR (i : Nat) s.good.length ∧ b.length = 32) := fun h => h ⟨⟨by omega, by omega⟩, hb⟩
  by_cases hf : s.fuse = 0
  · left; refine ⟨hf, ?_⟩
    unfold DS.write
    rw [if_neg hr, if_pos hf]
  · right; refine ⟨hf, ?_⟩
    unfold DS.write
    rw [if_neg hr, if_neg hf]
    exact ⟨rfl, rfl, by rw [Int.toNat_natCast], rfl⟩
theorem put_none {s : DS} (ok : s.Ok) (a : Nat) : Put s s a [] := ⟨rfl, (over_nil _ _).symm, ok, id⟩
/-- One sector more, or none. -/
theorem put_more {s t : DS} {a k : Nat} {cs : List Sec} (hk : k < cs.length) (h : a + cs.length ≤ s.good.length) (h32 : ∀ c ∈ cs, c.length = 32) (hs : s.Ok) (hp : Put s t a (cs.take k)) (ok' : (t.write ((a + k : Nat) : Int) (cs.getD k [])).2.Ok) :
    ((t.write ((a + k : Nat) : Int) (cs.getD k [])).1 = 0 ∧ Put s (t.write ((a + k : Nat) : Int) (cs.getD k [])).2 a (cs.take (k + 1))) ∨ ((t.write ((a + k : Nat) : Int) (cs.getD k [])).1 = 10 ∧ Half s (t.write ((a + k : Nat) : Int) (cs.getD k [])).2 a cs) := by
  have hl := hs.len
  rcases write_ok (s := t) (i := a + k) (b := cs.getD k []) (by rw [hp.good]; omega) (h32 _ (Dsk.getD_mem hk)) with ⟨hf, he⟩ | ⟨hf, h1, h2, h3, h4⟩
  · right
    rw [he]
    have hsl : (cs.take k).length = k := by rw [List.length_take]; omega
    refine ⟨rfl, hp.good, by rw [hp.now, over_length (by omega)], fun i => ?_, hp.ok, fun e => by have := hp.fuse e; omega⟩
    rw [hp.now, over_at (by omega), over_at (by omega)]
    by_cases h2 : i < a
    · rw [if_pos h2]; exact .inl rfl
    · rw [if_neg h2, if_neg h2]
      by_cases h3 : i < a + k
      · right; rw [if_pos (by omega), if_pos (by omega), List.getElem?_take_of_lt (by omega)]
      · left; rw [if_neg (by omega)]
  · left
    refine ⟨h1, by rw [h2]; exact hp.good, by rw [h3, hp.now, ← over_snoc hk (by omega)], ok', fun e => ?_⟩
    rw [h4, hp.fuse e]; rfl
theorem flat_part {cs : List Sec} (h32 : ∀ c ∈ cs, c.length = 32) : ∀ {k : Nat}, k < cs.length → (cs.flatten.drop (32 * k)).take 32 = cs.getD k [] := by
  induction cs with
  | nil => intro k hk; cases hk
  | cons c cs ih =>
    intro k hk
    have hc := h32 c (by simp)
    cases k with
    | zero =>
      rw [Nat.mul_zero, List.drop_zero, List.flatten_cons, ← hc, List.take_left]; rfl
    | succ k =>
      rw [List.flatten_cons, show 32 * (k + 1) = c.length + 32 * k by omega, List.drop_append, List.drop_eq_nil_of_le (Nat.le_add_right _ _), List.nil_append, Nat.add_sub_cancel_left, ih (fun x hx => h32 x (by simp [hx])) (by simp only [List.length_cons] at hk; omega)]
      rfl
theorem run_mid (b o n c lo : Nat) (z1 z2 : Int) (h1 : z1 = (lo : Int)) (h2 : z2 = ((lo + 32 : Nat) : Int)) (hc : lo + 32 ≤ c) (w : World) : (Instr.sliceAt 27 (.slice (some ⟨b, o, none⟩) n c) (some (.int .i64 z1)) (some (.int .i64 z2)) none).run Try.prog w = .ok (.slice (some ⟨b, o + lo, none⟩) 32 (c - lo)) w := by
  subst h1 h2
  simp [go_sem]
  have e : ((lo : Int) + 32).toNat = lo + 32 := by omega
  rw [e, if_pos (by omega), if_pos (by omega), if_neg (by omega), Nat.add_sub_cancel_left]

set_option maxHeartbeats 4000000 in
theorem jwrite_any (hD : Dsk.Prog D) (h : D w F p s) (hF : ∀ k, F k → k < w.heap.size) (at' : Nat) (cs : List Sec) (h32 : ∀ c ∈ cs, c.length = 32) (hat : at' + cs.length ≤ s.good.length) (aa : Option Addr) (len cap : Nat) (hA : Arg w aa len cap cs.flatten) (hfar : ∀ q, aa = some q → ¬ F q.block ∧ q.block < w.heap.size) :
    Calls Try.prog 36 #[.pointer (some ⟨p, 0, none⟩), .int .i64 (at' : Nat), .slice aa len cap] w fun e w' => ∃ b s', e = .returned (.bool b) ∧ (b = true ∧ Put s s' at' cs ∨ b = false ∧ Half s s' at' cs) ∧ D w' (More F w w') p s' ∧ Chg F w w' := by
  have hok := hD.ok h
  have hsm := hok.small
  have hlen : len = 32 * cs.length := by rw [← hA.len, flat_length32 _ h32]
  have hcs : cs.length ≤ 1024 := by omega
  have hlq : (len : Int) / 32 = cs.length := by omega
  subst hlen
  have HL := Lib.hid hlq
  have HD := Lib.hid (And.intro h (And.intro hF (And.intro hok (And.intro hA (And.intro hfar h32)))))
  obtain ⟨m, hm⟩ : ∃ m, m = cs.length := ⟨_, rfl⟩
  rw [← hm] at hlq hcs hat ⊢
  have HM := Lib.hid hm
  have hlq' : (32 * (m : Int)) / 32 = m := by omega
  clear h hF hok hA hfar hm h32 HL hlq
  go_enter Try.func36, Try.ntmps36
  go_wp2_with fail
  go_loopw [11] (fun i wr => ∃ (k : Nat) (t : DS), k ≤ m ∧ i = .int .i64 (k : Nat) ∧ Put s t at' (cs.take k) ∧ D wr (More F w wr) p t ∧ Chg F w wr) (fun i _ => m - (intOf i).toNat)
  case atStart => exact ⟨0, s, Nat.zero_le _, rfl, put_none HD.out.2.2.1 _, hD.mono HD.out.1 (fun k hk => .inl hk), chg_refl _ _⟩
  case round =>
    obtain ⟨k, t, hk, rfl, hp, hd, hC⟩ := hrel
    by_cases hlt : k < m
    · have hkc : k < cs.length := by rw [← HM.out]; exact hlt
      obtain ⟨b, o, rfl⟩ := row_at HD.out.2.2.2.1.row (by rw [HD.out.2.2.2.1.len]; omega)
      have hnF : ¬ F b ∧ b < w.heap.size := HD.out.2.2.2.2.1 _ rfl
      have hrow : RowB wr (some ⟨b, o + 32 * k, none⟩) (cs.getD k []) := by
        have h1 := row_take (row_drop (row_chg encB_len hC HD.out.2.2.2.1.row hnF.1) (32 * k)) 32
        rw [flat_part HD.out.2.2.2.2.2 hkc, Nat.mul_one] at h1
        exact h1
      have hcap := HD.out.2.2.2.1.cap
      have hmx := HD.out.2.2.2.1.max
      have hnM : ¬ More F w wr b := fun hh => hh.elim hnF.1 fun h' => by have := hnF.2; omega
      have hcl : (cs.getD k []).length = 32 := HD.out.2.2.2.2.2 _ (Dsk.getD_mem hkc)
      have HR := Lib.hid (And.intro hp (And.intro hd (And.intro hC (And.intro hrow (And.intro hnM (And.intro hcl (And.intro hkc (show cap - 32 * k ≤ maxLen by omega))))))))
      have hrn := run_mid b o (32 * m) cap (32 * k) ((k : Int) * 32) (((k : Int) + 1) * 32) (by omega) (by omega) (by omega) wr
      have HCp := Lib.hid (show 32 ≤ cap - 32 * k by omega)
      clear hp hd hC hrow hnM hcl hkc hcap hmx hnF
      go_wp2_with fail
      clear hrn
      rw [show ((at' : Int) + (k : Int)) = ((at' + k : Nat) : Int) from rfl]
      refine (hD.write HR.out.2.1 (fun k hk => more_lt HD.out.2.1 HR.out.2.2.1.size hk) ((at' + k : Nat) : Int) (some ⟨b, o + 32 * k, none⟩) 32 (cap - 32 * k) (cs.getD k []) ⟨by omega, by omega⟩ HR.out.2.2.2.2.2.1 HCp.out HR.out.2.2.2.2.2.2.2 (fun h => by cases h) HR.out.2.2.2.1 (fun q hq => by injection hq with hq; subst hq; exact HR.out.2.2.2.2.1)).mono ?_
      rintro e w1 ⟨rfl, hd, hC⟩
      have hC1 := chg_more HR.out.2.2.1 hC
      have hd1 := hD.mono hd fun k hk => more_more HR.out.2.2.1.size hC.size hk
      rcases put_more HR.out.2.2.2.2.2.2.1 (by rw [← HM.out]; exact hat) HD.out.2.2.2.2.2 HD.out.2.2.1 HR.out.1 (hD.ok hd) with ⟨he, hp⟩ | ⟨he, hp⟩
      all_goals
        rw [he]
        have HX := Lib.hid (And.intro hp (And.intro hd1 hC1))
        clear hp hd1 hC1 hd hC he HR
        go_wp2_with fail
      · go_roundw
        case rel => exact ⟨k + 1, _, by omega, by go_num, HX.out.1, HX.out.2.1, HX.out.2.2⟩
        case measure => simp [intOf]; omega
      · go_ret
        exact ⟨false, _, rfl, .inr ⟨rfl, HX.out.1⟩, HX.out.2.1, HX.out.2.2⟩
    · obtain rfl : k = m := by omega
      rw [HM.out, List.take_length] at hp
      have HX := Lib.hid (And.intro hp (And.intro hd hC))
      clear hp hd hC
      go_wp2_with fail
      go_ret
      exact ⟨true, _, rfl, .inl ⟨rfl, HX.out.1⟩, HX.out.2.1, HX.out.2.2⟩
end Go.Proofs.Ytdgfoldobofgoaa.Jrn
/- Journal: the landed lastEpoch: the disk's last epoch. -/
namespace Go.Proofs.Ytdgfoldobofgoaa.Jrn
set_option maxRecDepth 100000
open Go.RowKit
open Go.Sort
open Kit
open Oct
open Chk
open Frm
open Foot
open Dsk (Sec DS mix mix_at mix_length mix_whole mix_none RdB)
set_option linter.unusedVariables false
variable {D : World → (Nat → Prop) → Nat → DS → Prop}
variable {w w' : World} {F G : Nat → Prop} {p pj : Nat} {s : DS} {j : JS}

theorem or_byte (e : Nat) (y : UInt8) (he : e < 16777216) : Go.bits .or .i64 ((e : Int) * 256) (y.toNat : Int) = ((e * 256 + y.toNat : Nat) : Int) := by
  have h2 := y.toNat_lt
  have h : (BitVec.ofInt 64 ((e : Int) * 256) ||| BitVec.ofInt 64 (y.toNat : Int)).toNat = e * 256 + y.toNat := by
    rw [BitVec.toNat_or, BitVec.toNat_ofInt, BitVec.toNat_ofInt, show ((e : Int) * 256 % ((2 ^ 64 : Nat) : Int)).toNat = e * 256 by omega, show ((y.toNat : Int) % ((2 ^ 64 : Nat) : Int)).toNat = y.toNat by omega]
    exact nat_join 8 _ _ (by omega) (by omega)
  show IntKind.i64.wrap ((BitVec.ofInt 64 ((e : Int) * 256) ||| BitVec.ofInt 64 (y.toNat : Int)).toNat : Int) = _
  rw [h, IntKind.wrap_i64]; omega
theorem last_snoc {c : List Sec} {k : Nat} (hk : k < c.length) : lastE (c.take (k + 1)) = max (lastE (c.take k)) (numK (c.getD k []) 24 4) := by
  unfold lastE
  rw [List.take_succ_eq_append_getElem hk, List.map_append, List.foldl_append, Dsk.getD_at hk]; rfl
theorem last_lt (c : List Sec) : lastE c < 4294967296 := by
  rcases last_is c with h | ⟨x, _, h⟩
  · omega
  · rw [← h]; exact numK_lt x 24 4
theorem part_one {c : List Sec} {k : Nat} (hk : k < c.length) : (part c k (k + 1)).flatten = c.getD k [] := by
  rw [part_snoc (Nat.le_refl _) hk, part_nil]; simp
theorem run_24 (b o n c : Nat) (hc : 32 ≤ c) (w : World) : (Instr.sliceAt 27 (.slice (some ⟨b, o, none⟩) n c) (some (.int .i64 24)) (some (.int .i64 28)) none).run Try.prog w = .ok (.slice (some ⟨b, o + 24, none⟩) 4 (c - 24)) w := by
  simp [go_sem]
  rw [if_pos (by omega), if_neg (by omega)]

set_option maxHeartbeats 4000000 in
theorem jlast_any (hD : Dsk.Prog D) (h : D w F p s) : Calls Try.prog 33 #[.pointer (some ⟨p, 0, none⟩)] w fun e w' => e = .returned (.int .i64 (lastE s.now : Nat)) ∧ Below w.heap.size w w' := by
  have hok := hD.ok h
  have hsm := hok.small
  have hnl := hok.len
  have HD := Lib.hid (And.intro h hok)
  clear h hok
  go_enter Try.func33, Try.ntmps33
  go_wp2_with fail
  refine (hD.size HD.out.1).mono ?_
  rintro e w1 ⟨rfl, hb⟩
  have HB := Lib.hid hb
  clear hb
  obtain ⟨n, hn⟩ : ∃ n, n = s.good.length := ⟨_, rfl⟩
  rw [← hn] at hsm hnl ⊢
  have HN := Lib.hid hn
  clear hn
  go_wp2_with fail
  go_loopw [3, 10] (fun v i wr => ∃ k : Nat, k ≤ n ∧ i = .int .i64 (k : Nat) ∧ v = .int .i64 (lastE (s.now.take k) : Nat) ∧ Below w.heap.size w wr) (fun _ i _ => n - (intOf i).toNat)
  case atStart => exact ⟨0, Nat.zero_le _, rfl, rfl, HB.out⟩
  case round =>
    obtain ⟨k, hk, rfl, rfl, hbel⟩ := hrel
    have HW := Lib.hid hbel
    clear hbel
    by_cases hlt : k < n
    · have hkl : k < s.now.length := by omega
      go_wp2_with fail
      refine (jread_any hD (d_keep hD HD.out.1 HW.out) k (k + 1) (Nat.le_succ _) (by rw [← HN.out]; omega)).mono ?_
      rintro e w2 ⟨v2, rfl, hv, hb⟩
      rw [part_one hkl] at hv
      have h32 : (s.now.getD k []).length = 32 := HD.out.2.now32 _ (Dsk.getD_mem hkl)
      have hls := last_snoc hkl
      generalize s.now.getD k [] = x at *
      obtain ⟨a2, c2, rfl, g1, g2, g3, g4, -⟩ := hv
      rw [h32] at g1 ⊢
      obtain ⟨b, o, rfl⟩ := row_at g4 (by omega)
      have hbytes : ∀ m, m < 4 → w2.cell? ⟨b, o + 24 + m, none⟩ = some (.int .u8 ((x.getD (24 + m) 0).toNat : Int)) := fun m hm => by
        have := byte_at g4 (k := 24 + m) (by omega)
        rw [← Nat.add_assoc] at this
        exact this
      have HX := Lib.hid (And.intro (below_keep HW.out hb) (And.intro hls hbytes))
      have hsl := run_24 b o 32 c2 g1 w2
      obtain ⟨c4, hc4⟩ : ∃ c4, c4 = c2 - 24 := ⟨_, rfl⟩
      rw [← hc4] at hsl
      have hlE := last_lt (s.now.take k)
      clear hb hls hbytes g3 g4 h32 HW hkl hc4
      go_wp2_with fail
      clear hsl
      go_loop [5, 20] (fun e j => ∃ m : Nat, m ≤ 4 ∧ j = .int .i64 (m : Nat) ∧ e = .int .i64 (numK x 24 m : Nat)) (fun _ j => 4 - (intOf j).toNat)
      case atStart => exact ⟨0, Nat.zero_le _, rfl, rfl⟩
      case round =>
        obtain ⟨m, hm, rfl, rfl⟩ := hrel
        by_cases hm4 : m < 4
        · have hc := HX.out.2.2 m hm4
          have hnk : numK x 24 (m + 1) = numK x 24 m * 256 + (x.getD (24 + m) 0).toNat := rfl
          have hlt24 : numK x 24 m < 16777216 := by
            have := numK_lt x 24 m
            have h3 : (256 : Nat) ^ m ≤ 256 ^ 3 := Nat.pow_le_pow_right (by omega) (by omega)
            omega
          generalize x.getD (24 + m) 0 = y at *
          have hy := y.toNat_lt
          obtain ⟨K1, hK1⟩ : ∃ K1, K1 = numK x 24 (m + 1) := ⟨_, rfl⟩
          rw [← hK1] at hnk
          have HM := Lib.hid hK1
          clear hK1
          generalize numK x 24 m = K0 at *
          have HK := Lib.hid (And.intro hnk (or_byte K0 y hlt24))
          clear hnk
          go_wp2_with fail
          go_round
          case rel => exact ⟨m + 1, by omega, by go_num, by rw [HK.out.2, ← HK.out.1, HM.out]⟩
          case measure => simp [intOf]; omega
        · obtain rfl : m = 4 := by omega
          have hnk := numK_lt x 24 4
          go_wp2_with fail
          go_roundw
          case rel => exact ⟨k + 1, by omega, by go_num, by rw [HX.out.2.1]; congr 1; rcases Nat.lt_or_ge (lastE (s.now.take k)) (numK x 24 4) with h | h <;> first | (rw [if_pos h, Nat.max_eq_right (by omega)]) | (rw [if_neg (by omega), Nat.max_eq_left h]), HX.out.1⟩
          case measure => simp [intOf]; omega
    · obtain rfl : k = n := by omega
      go_wp2_with fail
      go_ret
      refine ⟨?_, HW.out⟩
      rw [List.take_of_length_le (by omega)]; rfl
end Go.Proofs.Ytdgfoldobofgoaa.Jrn
/- Journal: the landed checkpointOf and otherPlace: the disk's checkpoint, and the other place. -/
namespace Go.Proofs.Ytdgfoldobofgoaa.Jrn
set_option maxRecDepth 100000
open Go.RowKit
open Go.Sort
open Kit
open Oct
open Chk
open Frm
open Foot
open Dsk (Sec DS mix mix_at mix_length mix_whole mix_none RdB)
set_option linter.unusedVariables false
variable {D : World → (Nat → Prop) → Nat → DS → Prop}
variable {w w' : World} {F G : Nat → Prop} {p pj : Nat} {s : DS} {j : JS}

/-! ### What is picked, place by place -/

abbrev Pick := Option (Nat × Nat × Nat × Bs)
def pickStep (c : List Sec) (slot : Nat) (acc : Pick) (k : Nat) : Pick := match unpackB (placeB c slot k) with
  | none => acc
  | some (e, q, b, _) => match acc with
    | none => some (k, e, q, b)
    | some (P, E, Q, B) => if E < e then some (k, e, q, b) else some (P, E, Q, B)
def pickN (c : List Sec) (slot : Nat) : Nat → Pick
  | 0 => none
  | k + 1 => pickStep c slot (pickN c slot k) k
theorem pick_two (c : List Sec) (slot : Nat) : pickN c slot 2 = pick c slot := by
  unfold pickN pickN pickN pick pickStep
  cases unpackB (placeB c slot 0) with
  | none =>
    cases unpackB (placeB c slot 1) with
    | none => rfl
    | some y => rfl
  | some x =>
    obtain ⟨e, q, b, k⟩ := x
    cases unpackB (placeB c slot 1) with
    | none => rfl
    | some y =>
      obtain ⟨e', q', b', k'⟩ := y
      rfl
theorem place_part {c : List Sec} {slot k : Nat} : (part c (k * slot) ((k + 1) * slot)).flatten = placeB c slot k := by
  unfold part placeB
  rw [show (k + 1) * slot - k * slot = slot by rw [Nat.succ_mul]; omega]

/-! ### A block of cells that is overwritten -/

theorem wpList_store_own {P : Program} {ops : Array Oper} {rest : List Oper} {o : Oper} {a : Act} {w : World} {Q : Exit → Act → World → Prop} (hgd : o.guard = none) (ty : TypeId) (x y : Operand) (ho : o.op = .store ty x y)
    (g : Nat) (ds : List Value) (hx : a.eval x = .pointer (some ⟨g, 0, none⟩)) (hy : a.eval y = .agg ds.toArray) (cs : List Value) (t : TypeId) (hB : Arr.Blk w g t cs) (hi : (P.info? ty).map (·.size) = some ds.length)
    (hold : cs.length = ds.length) (h1 : ds.all (·.oneCell') = true)
    (h : ∀ w', Arr.Blk w' g t ds → Chg (fun k => k = g) w w' → w'.heap.size = w.heap.size → wpList P ops Q rest (a.put o.dst undef) w') : wpList P ops Q (o :: rest) a w :=
  wpList_store_row hgd ty x y ho g ds.toArray hx hy t cs.toArray hB (by simpa using hi) (by simpa using hold) (by simpa using h1) (h _ (Arr.blk_row hB ds) (chg_row (F := fun k => k = g) (chg_refl _ _) (.inl rfl) _) (setRow_size _ _ _))
theorem results_cell_row2 {P : Program} {fn : Func} {p u : Tmp} {ty : TypeId} (h : fn.results = #[.cell p ty, .tmp u]) (tmps : Array Value) (w : World) (g : Nat) (t : TypeId) (cs : List Value) (d : TypeDesc)
    (hp : tmps.getD p undef = .pointer (some ⟨g, 0, none⟩)) (hg : Arr.Blk w g t cs) (hu : P.underlying ty = some d) (hd : (match d with | .struct _ | .array _ _ => true | _ => false) = true) (hi : (P.info? ty).map (·.size) = some cs.length) :
    (results fn tmps).run P w = .ok (.tuple #[.agg cs.toArray, tmps.getD u undef]) w := by
  rw [results_cell_tmp h, hp]
  simp [asAddr, Result.andThen, run_loadVar_row w g t ty cs.toArray (0, 0) d hg hu hd (by simpa using hi)]
theorem info_ck : (Try.prog.info? 53).map (·.size) = some 4 := by kernel_rfl

/-! ### The landed checkpointOf -/

def zero4 : List Value := [.int .i64 0, .int .i64 0, .int .i64 0, .slice none 0 0]
/-- What has been picked, as it lies in the call's own block B. -/
def Acc (w : World) (B : Nat) (acc : Pick) : Prop := match acc with
  | none => Arr.Blk w B 53 zero4
  | some (P, E, Q, b) => ∃ v, Arr.Blk w B 53 [.int .i64 (P : Nat), .int .i64 (E : Nat), .int .i64 (Q : Nat), v] ∧ NewB w (B + 1) v b
theorem new_keep {base : Nat} {v : Value} {l : Bs} (h : NewB w base v l) (hb : Below w.heap.size w w') : NewB w' base v l := by
  obtain ⟨a, c, rfl, h1, h2, h3, h4, h5⟩ := h
  exact ⟨a, c, rfl, h1, h2, h3, row_keep encB_len h4 hb, fun q hq => ⟨(h5 q hq).1, Nat.lt_of_lt_of_le (h5 q hq).2 hb.size⟩⟩
theorem new_le {base base' : Nat} {v : Value} {l : Bs} (h : NewB w base v l) (hb : base' ≤ base) : NewB w base' v l := by
  obtain ⟨a, c, rfl, h1, h2, h3, h4, h5⟩ := h
  exact ⟨a, c, rfl, h1, h2, h3, h4, fun q hq => ⟨Nat.le_trans hb (h5 q hq).1, (h5 q hq).2⟩⟩
theorem new_far {base : Nat} {v : Value} {l : Bs} (h : NewB w base v l) (hC : Chg F w w') (hF : ∀ k, base ≤ k → ¬ F k) : NewB w' base v l := by
  obtain ⟨a, c, rfl, h1, h2, h3, h4, h5⟩ := h
  exact ⟨a, c, rfl, h1, h2, h3, row_far encB_len (P := fun k => base ≤ k) hC hF h4 fun q hq => (h5 q hq).1, fun q hq => ⟨(h5 q hq).1, Nat.lt_of_lt_of_le (h5 q hq).2 hC.size⟩⟩
theorem acc_keep {B : Nat} {acc : Pick} (h : Acc w B acc) (hb : Below w.heap.size w w') : Acc w' B acc := by
  have hblk : ∀ cs, Arr.Blk w B 53 cs → Arr.Blk w' B 53 cs := fun cs h => blk_chg (new_chg hb (fun _ => False)) h id
  match acc, h with
  | none, h => exact hblk _ h
  | some (P, E, Q, b), ⟨v, h1, h2⟩ => exact ⟨v, hblk _ h1, new_keep h2 hb⟩
/-- What checkpointOf answers. -/
def PickA (w w' : World) (acc : Pick) (e : Ending) : Prop := match acc with
  | none => e = .returned (.tuple #[.agg zero4.toArray, .bool false])
  | some (P, E, Q, b) => ∃ v, e = .returned (.tuple #[.agg #[.int .i64 (P : Nat), .int .i64 (E : Nat), .int .i64 (Q : Nat), v], .bool true]) ∧ NewB w' w.heap.size v b
theorem eq_opt {α : Type} (o : Option α) : o = none ∨ ∃ x, o = some x := by cases o <;> simp

set_option maxHeartbeats 8000000 in
theorem jpick_any (hD : Dsk.Prog D) (hP : Frm.Prog) (h : D w F p s) (slot : Nat) (h1 : 1 ≤ slot) (h2 : 2 * slot < s.good.length) (h100 : s.good.length ≤ 100) : Calls Try.prog 25 #[.pointer (some ⟨p, 0, none⟩), .int .i64 (slot : Nat)] w fun e w' => PickA w w' (pick s.now slot) e ∧ Below w.heap.size w w' := by
  have hok := hD.ok h
  have hnl := hok.len
  have HD := Lib.hid (And.intro h hok)
  clear h hok
  go_enter Try.func25, Try.ntmps25
  go_wp2_with fail
  go_loopw [5, 12] (fun ov i wr => ∃ k : Nat, k ≤ 2 ∧ i = .int .i64 (k : Nat) ∧ ov = .bool (pickN s.now slot k).isSome ∧ Acc wr w.heap.size (pickN s.now slot k) ∧ Below w.heap.size w wr) (fun _ i _ => 2 - (intOf i).toNat)
  case atStart => exact ⟨0, Nat.zero_le _, rfl, rfl, Arr.blk_new w _ _ zero4 rfl, below_alloc _ _⟩
  case round =>
    obtain ⟨k, hk, rfl, rfl, hacc, hbel⟩ := hrel
    have HW := Lib.hid (And.intro hacc hbel)
    clear hacc hbel
    by_cases hlt : k < 2
    · have hks1 : k * slot ≤ slot := by have := Nat.mul_le_mul_right slot (show k ≤ 1 by omega); omega
      have hks2 : (k + 1) * slot ≤ 2 * slot := Nat.mul_le_mul_right slot (show k + 1 ≤ 2 by omega)
      obtain ⟨A0, hA0⟩ : ∃ x, x = k * slot := ⟨_, rfl⟩
      obtain ⟨A1, hA1⟩ : ∃ x, x = (k + 1) * slot := ⟨_, rfl⟩
      have hi0 : (k : Int) * (slot : Int) = (A0 : Nat) := by rw [hA0]; exact (Int.natCast_mul _ _).symm
      have hi1 : ((k : Int) + 1) * (slot : Int) = (A1 : Nat) := by rw [hA1, Int.natCast_mul]; rfl
      have ha01 : A0 ≤ A1 := by rw [hA0, hA1, Nat.succ_mul]; omega
      have ha1 : A1 ≤ 2 * slot := by omega
      have HA := Lib.hid (show (part s.now A0 A1).flatten = placeB s.now slot k by rw [hA0, hA1]; exact place_part)
      have HK := Lib.hid (show pickN s.now slot (k + 1) = pickStep s.now slot (pickN s.now slot k) k from rfl)
      clear hA0 hA1 hks1 hks2
      go_wp2_with fail
      refine (jread_any hD (d_keep hD HD.out.1 HW.out.2) A0 A1 ha01 (by omega)).mono ?_
      rintro e w2 ⟨v2, rfl, hv, hb⟩
      have hfl : (part s.now A0 A1).flatten.length = 32 * (A1 - A0) := by rw [flat_length32 _ (part_32 HD.out.2.now32 _ _), part_length ha01 (by omega)]
      rw [HA.out] at hv hfl
      have hsz2 : w.heap.size < w2.heap.size := Nat.lt_of_lt_of_le (show w.heap.size < wr.heap.size from by
        rcases eq_opt (pickN s.now slot k) with ha | ⟨⟨P, E, Q, b0⟩, ha⟩
        · have := HW.out.1; rw [ha] at this; exact Arr.blk_lt this
        · have := HW.out.1; rw [ha] at this; obtain ⟨_, h1, _⟩ := this; exact Arr.blk_lt h1) hb.size
      have HW2 := Lib.hid (And.intro (acc_keep HW.out.1 hb) (And.intro (below_keep HW.out.2 hb) hsz2))
      obtain ⟨a2, c2, rfl, hA2⟩ := arg_new hv
      obtain ⟨pb, hpb⟩ : ∃ x, x = placeB s.now slot k := ⟨_, rfl⟩
      rw [← hpb] at hA2 hfl ⊢
      have HPb := Lib.hid hpb
      have HA2 := Lib.hid (And.intro hA2 (show pb.length ≤ 4000 by omega))
      obtain ⟨pl, hpl⟩ : ∃ x, x = pb.length := ⟨_, rfl⟩
      rw [← hpl] at HA2 ⊢
      clear hb hv hA2 hpb hfl hsz2 hpl HW HA hi0 hi1 ha01 ha1
      go_wp2_with fail
      refine (hP.unpack a2 pl c2 pb w2 HA2.out.1 HA2.out.2).mono ?_
      rintro e w3 ⟨v3, rfl, hn3, hb3⟩
      rcases eq_opt (unpackB pb) with hu | ⟨⟨e, q, b, kk⟩, hu⟩
      · rw [ansU_none hu]
        have HKs := Lib.hid (show pickN s.now slot (k + 1) = pickN s.now slot k by rw [HK.out]; unfold pickStep; rw [← HPb.out, hu])
        have H3 := Lib.hid (And.intro (acc_keep HW2.out.1 hb3) (below_keep HW2.out.2.1 hb3))
        clear hn3 hb3 hu HW2 HA2 HK HPb
        go_wp2_with fail
        go_roundw
        case rel => exact ⟨k + 1, by omega, by go_num, by rw [HKs.out], by rw [HKs.out]; exact H3.out.1, H3.out.2⟩
        case measure => simp [intOf]; omega
      · rw [ansU_some hu] at hn3 ⊢
        have hn3' : NewB w3 w2.heap.size v3 b := hn3
        obtain ⟨a3, c3, rfl, _⟩ := arg_new hn3'
        have hK : pickN s.now slot (k + 1) = match pickN s.now slot k with
            | none => some (k, e, q, b)
            | some (P, E, Q, B) => if E < e then some (k, e, q, b) else some (P, E, Q, B) := by
          rw [HK.out]; unfold pickStep; rw [← HPb.out, hu]
        have hacc := acc_keep HW2.out.1 hb3
        have H3 := Lib.hid (And.intro hn3' (And.intro (below_keep HW2.out.2.1 hb3) (show w.heap.size + 1 ≤ w2.heap.size from HW2.out.2.2)))
        clear hn3 hn3' hb3 hu HA2 HW2 HK HPb
        rcases eq_opt (pickN s.now slot k) with ha | ⟨⟨P, E, Q, b0⟩, ha⟩
        · rw [ha] at hacc hK ⊢
          have HAc : Hid (Arr.Blk w3 w.heap.size 53 zero4) := Lib.hid hacc
          have HKs : Hid (pickN s.now slot (k + 1) = some (k, e, q, b)) := Lib.hid hK
          clear hacc hK ha
          simp only [Option.isSome_none]
          go_wp2_with (first | (refine wpList_store_own rfl 53 (.tmp 4) (.tmp 47) rfl w.heap.size [.int .i64 (k : Nat), .int .i64 (e : Nat), .int .i64 (q : Nat), .slice a3 b.length c3] rfl rfl zero4 53 HAc.out info_ck rfl rfl ?_; intro w4 hblk hC hsz) | fail)
          have H4 := Lib.hid (show Acc w4 w.heap.size (some (k, e, q, b)) ∧ Below w.heap.size w w4 from ⟨⟨_, hblk, new_far (new_le H3.out.1 H3.out.2.2) hC fun y hy hh => by omega⟩, H3.out.2.1.trans (chg_below hC (fun y hy => by omega) H3.out.2.1.size)⟩)
          clear hblk hC hsz H3
          go_roundw
          case rel => exact ⟨k + 1, by omega, by go_num, by rw [HKs.out]; rfl, by rw [HKs.out]; exact H4.out.1, H4.out.2⟩
          case measure => simp [intOf]; omega
        · rw [ha] at hacc hK ⊢
          obtain ⟨v0, hblk0, hn0⟩ := hacc
          have c1 := Arr.blk_cell hblk0 1
          simp only [List.getElem?_cons_zero, List.getElem?_cons_succ] at c1
          have HAc := Lib.hid (And.intro hblk0 hn0)
          clear hblk0 hn0
          simp only [Option.isSome_some]
          replace hK : pickN s.now slot (k + 1) = if E < e then some (k, e, q, b) else some (P, E, Q, b0) := hK
          by_cases hEe : E < e
          · rw [if_pos hEe] at hK
            have HKs := Lib.hid hK
            have hEi : (E : Int) < e := by omega
            clear hK hEe ha
            go_wp2_with (first | (refine wpList_store_own rfl 53 (.tmp 4) (.tmp 47) rfl w.heap.size [.int .i64 (k : Nat), .int .i64 (e : Nat), .int .i64 (q : Nat), .slice a3 b.length c3] rfl rfl [.int .i64 (P : Nat), .int .i64 (E : Nat), .int .i64 (Q : Nat), v0] 53 HAc.out.1 info_ck rfl rfl ?_; intro w4 hblk hC hsz) | fail)
            have H4 := Lib.hid (show Acc w4 w.heap.size (some (k, e, q, b)) ∧ Below w.heap.size w w4 from ⟨⟨_, hblk, new_far (new_le H3.out.1 H3.out.2.2) hC fun y hy hh => by omega⟩, H3.out.2.1.trans (chg_below hC (fun y hy => by omega) H3.out.2.1.size)⟩)
            clear hblk hC hsz H3
            go_roundw
            case rel => exact ⟨k + 1, by omega, by go_num, by rw [HKs.out]; rfl, by rw [HKs.out]; exact H4.out.1, H4.out.2⟩
            case measure => simp [intOf]; omega
          · rw [if_neg hEe] at hK
            have HKs := Lib.hid hK
            have hEi : ¬ (E : Int) < e := by omega
            have HAc2 := Lib.hid (show Acc w3 w.heap.size (some (P, E, Q, b0)) from ⟨v0, HAc.out.1, HAc.out.2⟩)
            clear hK hEe ha
            go_wp2_with fail
            go_roundw
            case rel => exact ⟨k + 1, by omega, by go_num, by rw [HKs.out]; rfl, by rw [HKs.out]; exact HAc2.out, H3.out.2.1⟩
            case measure => simp [intOf]; omega
    · obtain rfl : k = 2 := by omega
      have hacc : Acc wr w.heap.size (pick s.now slot) := by rw [← pick_two]; exact HW.out.1
      rw [pick_two]
      rcases eq_opt (pick s.now slot) with hp | ⟨⟨P, E, Q, b⟩, hp⟩
      · rw [hp] at hacc ⊢
        have HAc : Hid (Arr.Blk wr w.heap.size 53 zero4) := Lib.hid hacc
        have HPk := Lib.hid hp
        clear hacc hp
        simp only [Option.isSome_none]
        go_wp2_with (first | (refine Arr.wpList_load_blk rfl 53 (.tmp 4) rfl w.heap.size rfl zero4 53 HAc.out _ Try.underlying53 rfl info_ck ?_) | (refine wpList_store_own rfl 53 (.tmp 4) (.tmp 49) rfl w.heap.size zero4 rfl rfl zero4 53 HAc.out info_ck rfl rfl ?_; intro w4 hblk hC hsz) | fail)
        refine bodyPost_ret (results_cell_row2 rfl _ _ w.heap.size 53 zero4 _ rfl hblk Try.underlying53 rfl info_ck) rfl ?_
        exact ⟨by rw [HPk.out]; rfl, HW.out.2.trans (chg_below hC (fun y hy => by omega) HW.out.2.size)⟩
      · rw [hp] at hacc ⊢
        obtain ⟨v, hblk0, hn0⟩ := hacc
        obtain ⟨a3, c3, rfl, _⟩ := arg_new hn0
        have HAc := Lib.hid (And.intro hblk0 hn0)
        have HPk := Lib.hid hp
        clear hblk0 hn0 hp
        simp only [Option.isSome_some]
        go_wp2_with (first | (refine Arr.wpList_load_blk rfl 53 (.tmp 4) rfl w.heap.size rfl [.int .i64 (P : Nat), .int .i64 (E : Nat), .int .i64 (Q : Nat), .slice a3 b.length c3] 53 HAc.out.1 _ Try.underlying53 rfl info_ck ?_) | (refine wpList_store_own rfl 53 (.tmp 4) (.tmp 49) rfl w.heap.size [.int .i64 (P : Nat), .int .i64 (E : Nat), .int .i64 (Q : Nat), .slice a3 b.length c3] rfl rfl [.int .i64 (P : Nat), .int .i64 (E : Nat), .int .i64 (Q : Nat), .slice a3 b.length c3] 53 HAc.out.1 info_ck rfl rfl ?_; intro w4 hblk hC hsz) | fail)
        refine bodyPost_ret (results_cell_row2 rfl _ _ w.heap.size 53 [.int .i64 (P : Nat), .int .i64 (E : Nat), .int .i64 (Q : Nat), .slice a3 b.length c3] _ rfl hblk Try.underlying53 rfl info_ck) rfl ?_
        exact ⟨by rw [HPk.out]; exact ⟨_, rfl, new_le (new_far HAc.out.2 hC fun y hy hh => by omega) (Nat.le_succ _)⟩, HW.out.2.trans (chg_below hC (fun y hy => by omega) HW.out.2.size)⟩

/-! ### The landed otherPlace -/

def otherN (acc : Pick) : Nat := match acc with | some (P, _, _, _) => if P = 0 then 1 else 0 | none => 0
theorem pick_place {c : List Sec} {slot P E Q : Nat} {b : Bs} (h : pick c slot = some (P, E, Q, b)) : P < 2 ∧ E < 4294967296 ∧ Q < 4294967296 ∧ b.length ≤ 65535 := by
  unfold pick at h
  cases h0 : unpackB (placeB c slot 0) with
  | none =>
    cases h1 : unpackB (placeB c slot 1) with
    | none => rw [h0, h1] at h; cases h
    | some y =>
      obtain ⟨e, q, b', k⟩ := y
      rw [h0, h1] at h
      obtain ⟨u1, u2, u3, _⟩ := unpack_some h1
      cases h
      exact ⟨by omega, u1, u2, by omega⟩
  | some x =>
    obtain ⟨e, q, b', k⟩ := x
    obtain ⟨u1, u2, u3, _⟩ := unpack_some h0
    cases h1 : unpackB (placeB c slot 1) with
    | none => rw [h0, h1] at h; cases h; exact ⟨by omega, u1, u2, by omega⟩
    | some y =>
      obtain ⟨e', q', b'', k'⟩ := y
      obtain ⟨v1, v2, v3, _⟩ := unpack_some h1
      rw [h0, h1] at h
      simp only at h
      split at h
      · cases h; exact ⟨by omega, v1, v2, by omega⟩
      · cases h; exact ⟨by omega, u1, u2, by omega⟩
set_option maxHeartbeats 4000000 in
theorem jother_any (hD : Dsk.Prog D) (hP : Frm.Prog) (h : D w F p s) (slot : Nat) (h1 : 1 ≤ slot) (h2 : 2 * slot < s.good.length) (h100 : s.good.length ≤ 100) : Calls Try.prog 32 #[.pointer (some ⟨p, 0, none⟩), .int .i64 (slot : Nat)] w fun e w' => e = .returned (.int .i64 (otherN (pick s.now slot) : Nat)) ∧ Below w.heap.size w w' := by
  have HC := Lib.hid (jpick_any hD hP h slot h1 h2 h100)
  clear h h1 h2 h100
  go_enter Try.func32, Try.ntmps32
  go_wp2_with fail
  refine HC.out.mono ?_
  rintro e w1 ⟨hp, hb⟩
  rcases eq_opt (pick s.now slot) with ha | ⟨⟨P, E, Q, b⟩, ha⟩
  · rw [ha] at hp
    obtain rfl : e = _ := hp
    have HB := Lib.hid (And.intro (show otherN (pick s.now slot) = 0 by rw [ha]; rfl) hb)
    clear ha hb HC
    go_wp2_with (first | (refine wpList_store_own rfl 53 (.tmp 5) (.tmp 11) rfl w1.heap.size zero4 rfl rfl zero4 53 (Arr.blk_new w1 _ _ zero4 rfl) info_ck rfl rfl ?_; intro w4 hblk hC hsz) | fail)
    go_ret
    exact ⟨by rw [HB.out.1]; rfl, (below_keep HB.out.2 (below_alloc w1 (.cells zero4.toArray 53))).trans (chg_below hC (fun y hy => by have := HB.out.2.size; omega) (Nat.le_trans HB.out.2.size (by simp)))⟩
  · rw [ha] at hp
    obtain ⟨v, rfl, hn⟩ := hp
    obtain ⟨a3, c3, rfl, _⟩ := arg_new hn
    obtain ⟨hp2, _⟩ := pick_place ha
    have HB := Lib.hid (And.intro (show otherN (pick s.now slot) = if P = 0 then 1 else 0 by rw [ha]; rfl) hb)
    clear ha hb HC hn
    obtain rfl | rfl : P = 0 ∨ P = 1 := by omega
    all_goals
      go_wp2_with (first | (refine wpList_store_own rfl 53 (.tmp 5) (.tmp 11) rfl w1.heap.size [.int .i64 _, .int .i64 (E : Nat), .int .i64 (Q : Nat), .slice a3 b.length c3] rfl rfl zero4 53 (Arr.blk_new w1 _ _ zero4 rfl) info_ck rfl rfl ?_; intro w4 hblk hC hsz; have c0 := Arr.blk_cell hblk 0; simp only [List.getElem?_cons_zero] at c0; have HX := Lib.hid (And.intro hC hsz); clear hC hsz hblk) | fail)
      go_ret
      exact ⟨by rw [HB.out.1]; rfl, (below_keep HB.out.2 (below_alloc w1 (.cells zero4.toArray 53))).trans (chg_below HX.out.1 (fun y hy => by have := HB.out.2.size; omega) (Nat.le_trans HB.out.2.size (by simp)))⟩
end Go.Proofs.Ytdgfoldobofgoaa.Jrn
/- A scope in which the run jumps back to several labels: what holds at a jump to each, and a measure that every pass lowers. -/
namespace Go.Proofs.Ytdgfoldobofgoaa.Scp

/-- As Q; by a goto to a label: what is said of that label. -/
def Jumps (J : Nat → Act → World → Prop) (Q : Exit → Act → World → Prop) : Exit → Act → World → Prop
  | .goto l, a, w => J l a w
  | e, a, w => Q e a w

variable {P : Program} {a : Act} {w : World} {Q : Exit → Act → World → Prop}
theorem jumps_ret {J : Nat → Act → World → Prop} : Jumps J Q .ret a w = Q .ret a w := rfl
theorem jumps_normal {J : Nat → Act → World → Prop} : Jumps J Q .normal a w = Q .normal a w := rfl
theorem jumps_goto {J : Nat → Act → World → Prop} {l : Nat} : Jumps J Q (.goto l) a w = J l a w := rfl

theorem wp_labels {c : Code} (J : Nat → Act → World → Prop) (m : Nat → Act → World → Nat)
    (first : c.wp P (Jumps J Q) a w)
    (pass : ∀ l a w, J l a w → ∃ rest, findLabel c l = some rest ∧ rest.wp P (Jumps (fun l' a' w' => J l' a' w' ∧ m l' a' w' < m l a w) Q) a w) : (Code.scope c).wp P Q a w := by
  intro b k cs
  have key : ∀ n l a w, m l a w = n → J l a w → ∃ rest, findLabel c l = some rest ∧ ∃ e a' w', Q e a' w' ∧ Arrives P (lone (b.at a (.code rest :: .inScope c :: k)) cs w) b k cs e a' w' := by
    intro n
    induction n using Nat.strongRecOn with
    | _ n ih =>
      intro l a w hn hJ
      obtain ⟨rest, hf, hp⟩ := pass l a w hJ
      refine ⟨rest, hf, ?_⟩
      obtain ⟨e, a1, w1, hq, harr⟩ := hp b (.inScope c :: k) cs
      cases e with
      | normal => exact ⟨.normal, a1, w1, hq, Steps.trans harr (.one step_inScope)⟩
      | exit id => exact ⟨.exit id, a1, w1, hq, fun k' hk => harr k' (by simp [exitTo, hk])⟩
      | goto l' =>
        obtain ⟨hJ', hlt⟩ := hq
        obtain ⟨rest2, hf2, e2, a2, w2, hq2, harr2⟩ := ih _ (by omega) l' a1 w1 rfl hJ'
        have hg : gotoIn l' (.inScope c :: k) = some (.code rest2 :: .inScope c :: k) := by simp [gotoIn, hf2]
        exact ⟨e2, a2, w2, hq2, .of_steps (harr _ hg) harr2⟩
      | ret => exact ⟨_, a1, w1, hq, harr⟩
      | panic ch => exact ⟨_, a1, w1, hq, harr⟩
      | outgrown => exact ⟨_, a1, w1, hq, harr⟩
  obtain ⟨e, a1, w1, hq, harr⟩ := first b (.inScope c :: k) cs
  cases e with
  | normal => exact ⟨.normal, a1, w1, hq, .head step_scope (Steps.trans harr (.one step_inScope))⟩
  | exit id => exact ⟨.exit id, a1, w1, hq, fun k' hk => .head step_scope (harr k' (by simp [exitTo, hk]))⟩
  | goto l' =>
    obtain ⟨rest, hf, e2, a2, w2, hq2, harr2⟩ := key _ l' a1 w1 rfl hq
    have hg : gotoIn l' (.inScope c :: k) = some (.code rest :: .inScope c :: k) := by simp [gotoIn, hf]
    exact ⟨e2, a2, w2, hq2, .of_steps (.head step_scope (harr _ hg)) harr2⟩
  | ret => exact ⟨_, a1, w1, hq, .of_steps (.one step_scope) harr⟩
  | panic ch => exact ⟨_, a1, w1, hq, .of_steps (.one step_scope) harr⟩
  | outgrown => exact ⟨_, a1, w1, hq, .of_steps (.one step_scope) harr⟩

/-- Two labels, 0 and 1. -/
theorem wp_two {c r0 r1 : Code} (J0 J1 : Act → World → Prop) (m0 m1 : Act → World → Nat) (h0 : findLabel c 0 = some r0) (h1 : findLabel c 1 = some r1)
    (first : c.wp P (Jumps (fun l a w => (l = 0 ∧ J0 a w) ∨ (l = 1 ∧ J1 a w)) Q) a w)
    (pass0 : ∀ a w, J0 a w → r0.wp P (Jumps (fun l a' w' => (l = 0 ∧ J0 a' w' ∧ m0 a' w' < m0 a w) ∨ (l = 1 ∧ J1 a' w' ∧ m1 a' w' < m0 a w)) Q) a w)
    (pass1 : ∀ a w, J1 a w → r1.wp P (Jumps (fun l a' w' => (l = 0 ∧ J0 a' w' ∧ m0 a' w' < m1 a w) ∨ (l = 1 ∧ J1 a' w' ∧ m1 a' w' < m1 a w)) Q) a w) : (Code.scope c).wp P Q a w := by
  have hJ : ∀ (m : Nat) (a : Act) (w : World) (e : Exit) (a' : Act) (w' : World),
      Jumps (fun l a' w' => (l = 0 ∧ J0 a' w' ∧ m0 a' w' < m) ∨ (l = 1 ∧ J1 a' w' ∧ m1 a' w' < m)) Q e a' w' →
      Jumps (fun l a' w' => ((l = 0 ∧ J0 a' w') ∨ (l = 1 ∧ J1 a' w')) ∧ (if l = 0 then m0 a' w' else m1 a' w') < m) Q e a' w' := by
    intro m a w e a' w' h
    cases e with
    | goto l =>
      rcases h with ⟨rfl, h1, h2⟩ | ⟨rfl, h1, h2⟩
      · exact ⟨.inl ⟨rfl, h1⟩, h2⟩
      · exact ⟨.inr ⟨rfl, h1⟩, h2⟩
    | normal => exact h
    | exit id => exact h
    | ret => exact h
    | panic ch => exact h
    | outgrown => exact h
  refine wp_labels (fun l a w => (l = 0 ∧ J0 a w) ∨ (l = 1 ∧ J1 a w)) (fun l a w => if l = 0 then m0 a w else m1 a w) first fun l a w h => ?_
  rcases h with ⟨rfl, h⟩ | ⟨rfl, h⟩
  · exact ⟨r0, h0, Code.wp_mono (fun e a' w' hq => hJ _ a w e a' w' hq) (pass0 a w h)⟩
  · exact ⟨r1, h1, Code.wp_mono (fun e a' w' hq => hJ _ a w e a' w' hq) (pass1 a w h)⟩

theorem jumps_mono {J J' : Nat → Act → World → Prop} (h : ∀ l a w, J l a w → J' l a w) (e : Exit) (a : Act) (w : World) : Jumps J Q e a w → Jumps J' Q e a w := by
  intro hq
  cases e with
  | goto l => exact h l a w hq
  | normal => exact hq
  | exit id => exact hq
  | ret => exact hq
  | panic ch => exact hq
  | outgrown => exact hq

/-- Two labels, the one's code falling through into the other's, the start into the first's. -/
theorem wp_falls {c r0 r1 : Code} (J0 J1 : Act → World → Prop) (m0 m1 : Act → World → Nat) (h0 : findLabel c 0 = some (Code.skip.seq r0)) (h1 : findLabel c 1 = some (Code.skip.seq r1))
    (pass1 : ∀ a w, J1 a w → r1.wp P (Jumps (fun l a' w' => (l = 0 ∧ J0 a' w' ∧ m0 a' w' < m1 a w) ∨ (l = 1 ∧ J1 a' w' ∧ m1 a' w' < m1 a w)) Q) a w)
    (pass0 : (∀ a w m, J1 a w → m1 a w ≤ m → r1.wp P (Jumps (fun l a' w' => (l = 0 ∧ J0 a' w' ∧ m0 a' w' < m) ∨ (l = 1 ∧ J1 a' w' ∧ m1 a' w' < m)) Q) a w) →
      ∀ a w, J0 a w → r0.wp P (Jumps (fun l a' w' => (l = 0 ∧ J0 a' w' ∧ m0 a' w' < m0 a w) ∨ (l = 1 ∧ J1 a' w' ∧ m1 a' w' < m0 a w)) Q) a w)
    (first : (∀ a w, J0 a w → r0.wp P (Jumps (fun l a w => (l = 0 ∧ J0 a w) ∨ (l = 1 ∧ J1 a w)) Q) a w) → c.wp P (Jumps (fun l a w => (l = 0 ∧ J0 a w) ∨ (l = 1 ∧ J1 a w)) Q) a w) : (Code.scope c).wp P Q a w := by
  have p0 := pass0 fun a w m hj hm => Code.wp_mono (jumps_mono fun l a' w' h => by
    rcases h with ⟨h1, h2, h3⟩ | ⟨h1, h2, h3⟩
    · exact .inl ⟨h1, h2, by omega⟩
    · exact .inr ⟨h1, h2, by omega⟩) (pass1 a w hj)
  refine wp_two J0 J1 m0 m1 h0 h1 (first fun a w hj => Code.wp_mono (jumps_mono fun l a' w' h => ?_) (p0 a w hj)) (fun a w hj => wp_seq (wp_skip (p0 a w hj))) (fun a w hj => wp_seq (wp_skip (pass1 a w hj)))
  rcases h with ⟨h1, h2, _⟩ | ⟨h1, h2, _⟩
  · exact .inl ⟨h1, h2⟩
  · exact .inr ⟨h1, h2⟩

end Go.Proofs.Ytdgfoldobofgoaa.Scp
/- Journal: the landed records: those with which a log begins, one by one. -/
namespace Go.Proofs.Ytdgfoldobofgoaa.Jrn
set_option maxRecDepth 100000
open Go.RowKit
open Go.Sort
open Kit
open Oct
open Chk
open Frm
open Foot
open Scp
open Dsk (Sec DS mix mix_at mix_length mix_whole mix_none RdB)
set_option linter.unusedVariables false
variable {w w' wr w9 : World} {F G : Nat → Prop} {p pj : Nat} {s : DS} {j : JS} {v v9 : Value} {ss : List Sv} {x : Sv}

/-- One label, into which the code falls, and to which it jumps back. -/
theorem wp_fall {P : Program} {a : Act} {w : World} {Q : Exit → Act → World → Prop} {c r0 : Code} (J0 : Act → World → Prop) (m0 : Act → World → Nat) (h0 : findLabel c 0 = some (Code.skip.seq r0))
    (pass : ∀ a w, J0 a w → r0.wp P (Jumps (fun l a' w' => l = 0 ∧ J0 a' w' ∧ m0 a' w' < m0 a w) Q) a w)
    (first : (∀ a w, J0 a w → r0.wp P (Jumps (fun l a w => l = 0 ∧ J0 a w) Q) a w) → c.wp P (Jumps (fun l a w => l = 0 ∧ J0 a w) Q) a w) : (Code.scope c).wp P Q a w := by
  refine wp_labels (fun l a w => l = 0 ∧ J0 a w) (fun _ a w => m0 a w) (first fun a w hj => Code.wp_mono (jumps_mono fun l a' w' h => ⟨h.1, h.2.1⟩) (pass a w hj)) fun l a w h => ?_
  obtain ⟨rfl, hj⟩ := h
  exact ⟨_, h0, wp_seq (wp_skip (Code.wp_mono (jumps_mono fun l a' w' h => ⟨⟨h.1, h.2.1⟩, h.2.2⟩) (pass a w hj)))⟩

/-! ### The list, as it grows -/

structure Ri (w wr : World) (v : Value) (ss : List Sv) : Prop where
  own : Owns encV 1 27 wr w.heap.size v ss
  below : Below w.heap.size w wr
  el : ∀ s ∈ ss, SvOk wr s ∧ ∀ q, s.a = some q → w.heap.size ≤ q.block ∧ q.block < wr.heap.size ∧ v.ownBlock ≠ some q.block
theorem ri_keep (h : Ri w wr v ss) (hb : Below wr.heap.size wr w') : Ri w w' v ss :=
  ⟨own_chg (new_chg hb (fun _ => False)) h.own fun _ _ h => h, below_keep h.below hb, fun s hs => ⟨sv_keep (h.el s hs).1 hb, fun q hq => by
    obtain ⟨h1, h2, h3⟩ := (h.el s hs).2 q hq
    exact ⟨h1, Nat.lt_of_lt_of_le h2 hb.size, h3⟩⟩⟩
theorem ri_push {o : Obj} (h : Ri w wr v ss) (hx : SvOk wr x) (hxq : ∀ q, x.a = some q → w.heap.size ≤ q.block ∧ q.block < wr.heap.size ∧ v.ownBlock ≠ some q.block)
    (ho : Owns encV 1 27 w9 w.heap.size v9 (ss ++ [x])) (hg : (wr.alloc o).grownBy w9 v.ownBlock) (hw : v9.ownBlock = v.ownBlock ∨ v9.ownBlock = some (wr.alloc o).heap.size) : Ri w w9 v9 (ss ++ [x]) := by
  have hC : Chg (fun k => v.ownBlock = some k) wr w9 := chg_grown (chg_alloc (chg_refl _ wr) o) hg fun k hk => .inl hk
  have hb := below_alloc wr o
  refine ⟨ho, (h.below.alloc h.below.size o).trans (Two.below_grown (owns_alloc h.own o) hg (Nat.le_trans h.below.size hb.size)), fun s hs => ?_⟩
  have hold : SvOk wr s ∧ ∀ q, s.a = some q → w.heap.size ≤ q.block ∧ q.block < wr.heap.size ∧ v.ownBlock ≠ some q.block := by
    rcases List.mem_append.1 hs with hs | hs
    · exact h.el s hs
    · simp at hs; subst hs; exact ⟨hx, hxq⟩
  refine ⟨arg_far (P := fun k => v.ownBlock ≠ some k) hC (fun _ hk => hk) hold.1 fun q hq => (hold.2 q hq).2.2, fun q hq => ?_⟩
  obtain ⟨h1, h2, h3⟩ := hold.2 q hq
  refine ⟨h1, Nat.lt_of_lt_of_le h2 hC.size, ?_⟩
  rcases hw with hw | hw
  · rw [hw]; exact h3
  · rw [hw]; intro e; injection e with e; have := hb.size; omega
/-- What records answers: a list, its elements and itself in new blocks. -/
def NewL (w : World) (base : Nat) (v : Value) (ls : List Bs) : Prop := ListF w (fun k => base ≤ k ∧ k < w.heap.size) v ls
theorem ri_list {R : List Bs} (h : Ri w wr v ss) (hR : ss.map (·.l) = R) : NewL wr w.heap.size v R := by
  obtain ⟨a, c, rfl, h1, h2, h3, h4⟩ := owns_row encV_len h.own
  refine ⟨a, c, ss, rfl, h1, h2, fun e => ⟨by have := h3 e; omega, h3 e⟩, h4, fun s hs => (h.el s hs).1, hR, fun q hq => ?_, fun s hs q hq => ⟨((h.el s hs).2 q hq).1, ((h.el s hs).2 q hq).2.1⟩⟩
  subst hq
  exact World.ownsRow.lt h.own q.block rfl

/-! ### Where a log goes on -/

theorem flat_drop {L : List Sec} (h32 : ∀ c ∈ L, c.length = 32) : ∀ k, L.flatten.drop (32 * k) = (L.drop k).flatten := by
  induction L with
  | nil => intro k; simp
  | cons c L ih =>
    intro k
    have hc := h32 c (by simp)
    cases k with
    | zero => simp
    | succ k =>
      rw [List.flatten_cons, show 32 * (k + 1) = c.length + 32 * k by omega, List.drop_append, List.drop_eq_nil_of_le (Nat.le_add_right _ _), List.nil_append, Nat.add_sub_cancel_left, ih (fun x hx => h32 x (by simp [hx])) k]
      rfl
theorem run_tail (b o n c lo : Nat) (z : Int) (hz : z = (lo : Int)) (h1 : lo ≤ n) (h2 : n ≤ c) (w : World) (l : Bs) (hl : l.length = n) (hr : RowB w (some ⟨b, o, none⟩) l) :
    ∃ X, (Instr.sliceAt 27 (.slice (some ⟨b, o, none⟩) n c) (some (.int .i64 z)) none none).run Try.prog w = .ok (.slice (some ⟨b, X, none⟩) (n - lo) (c - lo)) w ∧ RowB w (some ⟨b, X, none⟩) (l.drop lo) := by
  subst hz
  by_cases h : c = lo
  · refine ⟨o, ?_, .inl (List.drop_eq_nil_of_le (by omega))⟩
    simp [go_sem]
    rw [if_pos (show lo ≤ n by omega), if_pos h]
  · refine ⟨o + lo, ?_, by have := row_drop hr lo; rw [Nat.mul_one] at this; exact this⟩
    simp [go_sem]
    rw [if_pos (show lo ≤ n by omega), if_neg h]
/-- What holds at the label. -/
def AtRec (w : World) (lv : Value) (E Q f0 : Nat) (L : List Sec) (a' : Act) (w' : World) : Prop :=
  ∃ (v : Value) (ss : List Sv) (W : List Bs) (f : Nat) (u8 u9 u10 u11 u12 u13 u14 u15 u16 u17 u18 u19 u20 u21 u22 u23 u24 u25 u26 u27 u28 u29 u30 u31 u32 u33 u34 u35 u36 u37 u38 u39 u40 u41 u42 u43 u44 u45 u46 u47 u48 : Value), a' = { tmps := #[lv, .int .i64 (E : Nat), .int .i64 (Q : Nat), undef, undef, undef, v, .int .i64 (span W : Nat), u8, u9, u10, u11, u12, u13, u14, u15, u16, u17, u18, u19, u20, u21, u22, u23, u24, u25, u26, u27, u28, u29, u30, u31, u32, u33, u34, u35, u36, u37, u38, u39, u40, u41, u42, u43, u44, u45, u46, u47, u48], defers := [] } ∧
    Ri w w' v ss ∧ ss.map (·.l) = W ∧ span W ≤ L.length ∧ W.length ≤ span W ∧ f0 = f + W.length ∧ recs E f0 Q L = W ++ recs E f (Q + W.length) (L.drop (span W))
def secsAt (a : Act) : Nat := (intOf (a.tmps.getD 7 undef)).toNat
theorem recs_some {E f q e q' k : Nat} {b : Bs} {L : List Sec} (h : unpackB L.flatten = some (e, q', b, k)) (he : e = E) (hq : q' = q + 1) : recs E (f + 1) q L = b :: recs E f (q + 1) (L.drop k) := by
  simp only [recs, h]
  rw [if_pos ⟨he, hq⟩]
theorem recs_none {E f q : Nat} {L : List Sec} (h : ∀ e q' b k, unpackB L.flatten = some (e, q', b, k) → ¬ (e = E ∧ q' = q + 1)) : recs E f q L = [] := by
  cases f with
  | zero => rfl
  | succ f =>
    simp only [recs]
    cases hu : unpackB L.flatten with
    | none => rfl
    | some x =>
      obtain ⟨e, q', b, k⟩ := x
      simp only
      rw [if_neg (h e q' b k hu)]
theorem info_sl : (Try.prog.info? 27).map (fun i => (i.zero, i.size, i.bytes)) = some (some (.slice none 0 0), 1, 24) := by kernel_rfl

set_option maxHeartbeats 8000000 in
theorem jrecs_any (hP : Frm.Prog) (L : List Sec) (h32 : ∀ c ∈ L, c.length = 32) (hL : L.length ≤ 100) (h1 : 0 < L.length) (aa : Option Addr) (len cap : Nat) (w : World) (hA : Arg w aa len cap L.flatten) (E Q f0 : Nat) (hE : E < 4294967296) (hQ : Q < 4294967296) (hf : L.length < f0) :
    Calls Try.prog 26 #[.slice aa len cap, .int .i64 (E : Nat), .int .i64 (Q : Nat)] w fun e w' => ∃ v, e = .returned (.tuple #[v, .int .i64 (span (recs E f0 Q L) : Nat)]) ∧ NewL w' w.heap.size v (recs E f0 Q L) ∧ Below w.heap.size w w' := by
  have hlen : len = 32 * L.length := by rw [← hA.len, flat_length32 _ h32]
  obtain ⟨b, o, rfl⟩ := row_at hA.row (by rw [hA.len]; omega)
  have hcap := hA.cap
  have HA := Lib.hid (And.intro hA (And.intro h32 hlen))
  clear hA h32
  go_enter Try.func26, Try.ntmps26
  go_wp2_with fail
  refine wp_fall (AtRec w (.slice (some ⟨b, o, none⟩) len cap) E Q f0 L) (fun a _ => L.length - secsAt a) rfl ?_ ?_
  · rintro a' wr ⟨v, ss, W, f, u8, u9, u10, u11, u12, u13, u14, u15, u16, u17, u18, u19, u20, u21, u22, u23, u24, u25, u26, u27, u28, u29, u30, u31, u32, u33, u34, u35, u36, u37, u38, u39, u40, u41, u42, u43, u44, u45, u46, u47, u48, rfl, hri, hmap, hsp, hWs, hfu, hrec⟩
    have h7 : secsAt { tmps := #[.slice (some ⟨b, o, none⟩) len cap, .int .i64 (E : Nat), .int .i64 (Q : Nat), undef, undef, undef, v, .int .i64 (span W : Nat), u8, u9, u10, u11, u12, u13, u14, u15, u16, u17, u18, u19, u20, u21, u22, u23, u24, u25, u26, u27, u28, u29, u30, u31, u32, u33, u34, u35, u36, u37, u38, u39, u40, u41, u42, u43, u44, u45, u46, u47, u48], defers := [] } = span W := by simp [secsAt, intOf]
    rw [h7]
    clear h7
    have hrow := row_keep encB_len HA.out.1.row hri.below
    obtain ⟨X, hsl, hrw⟩ := run_tail b o len cap (32 * span W) ((span W : Int) * 32) (by omega) (by omega) hcap wr L.flatten HA.out.1.len hrow
    rw [flat_drop HA.out.2.1] at hrw
    obtain ⟨k, hk⟩ : ∃ k, k = span W := ⟨_, rfl⟩
    rw [← hk] at hsl hrw hsp hWs hrec ⊢
    obtain ⟨a6, c6, rfl, g1, g2, g3, g4⟩ := owns_row encV_len hri.own
    obtain ⟨n6, hn6⟩ : ∃ n, n = ss.length := ⟨_, rfl⟩
    have hn6W : n6 = W.length := by rw [hn6, ← hmap, List.length_map]
    rw [← hn6] at hri ⊢
    have HR := Lib.hid (And.intro hri (And.intro hmap (And.intro hk (And.intro hn6 (And.intro hrec hfu)))))
    have hAt : Arg wr (some ⟨b, X, none⟩) (len - 32 * k) (cap - 32 * k) (L.drop k).flatten := ⟨by rw [flat_length32 _ (fun c hc => HA.out.2.1 c (List.mem_of_mem_drop hc)), List.length_drop]; omega, by omega, by have := HA.out.1.max; omega, (fun h => by cases h), hrw⟩
    have HAt := Lib.hid hAt
    have hn100 : n6 ≤ 100 := by omega
    obtain ⟨tl, htl⟩ : ∃ t, t = len - 32 * k := ⟨_, rfl⟩
    obtain ⟨tc, htc⟩ : ∃ t, t = cap - 32 * k := ⟨_, rfl⟩
    rw [← htl, ← htc] at hsl HAt
    have HTl := Lib.hid (show tl ≤ 4000 by omega)
    have HNW := Lib.hid (And.intro hn6W hlen)
    clear hri hmap hk hn6 hrec hfu hrw hrow hAt g1 g2 g3 g4 htl htc hn6W hlen
    go_wp2_with fail
    clear hsl
    refine (hP.unpack (some ⟨b, X, none⟩) tl tc (L.drop k).flatten wr HAt.out HTl.out).mono ?_
    rintro e w3 ⟨v3, rfl, hn3, hb3⟩
    have hri3 := ri_keep HR.out.1 hb3
    have hlt6 := World.ownsRow.lt HR.out.1.own
    rcases eq_opt (unpackB (L.drop k).flatten) with hu | ⟨⟨e, q, bs, kk⟩, hu⟩
    · rw [ansU_none hu]
      have hend : recs E f0 Q L = W := by rw [HR.out.2.2.2.2.1, recs_none (fun e q' b k h => by rw [hu] at h; cases h), List.append_nil]
      have HX := Lib.hid (And.intro hri3 (And.intro hend HR.out.2.1))
      have HK := Lib.hid HR.out.2.2.1
      clear hn3 hb3 hri3 hu hend HR HAt HTl hlt6
      go_wp2_with fail
      simp only [jumps_ret]
      go_ret2
      rw [HX.out.2.1]
      exact ⟨_, by rw [HK.out]; rfl, ri_list HX.out.1 HX.out.2.2, HX.out.1.below⟩
    · rw [ansU_some hu] at hn3 ⊢
      have hn3' : NewB w3 wr.heap.size v3 bs := hn3
      obtain ⟨a3, c3, rfl, r1, r2, r3, r4, r5⟩ := hn3'
      obtain ⟨u1, u2, u3, u4, u5, _⟩ := unpack_some hu
      have hfl : (L.drop k).flatten.length = 32 * (L.length - k) := by rw [flat_length32 _ (fun c hc => HA.out.2.1 c (List.mem_of_mem_drop hc)), List.length_drop]
      have hsec := secs_pos bs.length
      have hn6W := HNW.out.1
      by_cases hyes : e = E ∧ q = Q + n6 + 1
      · obtain ⟨rfl, rfl⟩ := hyes
        obtain ⟨f', hf'⟩ : ∃ f', f = f' + 1 := ⟨f - 1, by have := HR.out.2.2.2.2.2; omega⟩
        have hrec' : recs e f0 Q L = (W ++ [bs]) ++ recs e f' (Q + (W ++ [bs]).length) (L.drop (k + kk)) := by
          rw [HR.out.2.2.2.2.1, hf', recs_some hu rfl (by omega), List.drop_drop, List.append_assoc, List.length_append, List.length_singleton, Nat.add_assoc]
          rfl
        have hfu' : f0 = f' + (W ++ [bs]).length := by rw [List.length_append, List.length_singleton]; have := HR.out.2.2.2.2.2; omega
        have hspan : span (W ++ [bs]) = k + kk := by rw [span_append, HR.out.2.2.1, u4]; simp [span]
        have hmap' : (ss ++ [(⟨a3, bs.length, c3, bs⟩ : Sv)]).map (·.l) = W ++ [bs] := by rw [List.map_append, HR.out.2.1]; rfl
        have hown := owns_alloc hri3.own (Obj.cells #[Value.slice a3 bs.length c3] 27)
        have hrw : Kit.Row encV 1 (w3.alloc (Obj.cells #[Value.slice a3 bs.length c3] 27)) (some ⟨w3.heap.size, 0, none⟩) [⟨a3, bs.length, c3, bs⟩] := Kit.row_new encV_len w3 [⟨a3, bs.length, c3, bs⟩] _ _ _ rfl rfl
        have h63 : ss.length + 1 ≤ maxLen := by rw [← HR.out.2.2.2.1]; unfold maxLen; omega
        have hby : (ss.length + 1) * 24 ≤ 140737488355328 := by rw [← HR.out.2.2.2.1]; omega
        have hbs : w.heap.size ≤ (w3.alloc (Obj.cells #[Value.slice a3 bs.length c3] 27)).heap.size := Nat.le_trans hri3.below.size (by simp)
        have HT9 := Lib.hid (fun (v9 : Value) (w9 : World) ho9 hg9 hw9 => ri_push (x := ⟨a3, bs.length, c3, bs⟩) (v9 := v9) (w9 := w9) (o := Obj.cells #[Value.slice a3 bs.length c3] 27) hri3 ⟨rfl, r1, r2, r3, r4⟩ (fun q hq => ⟨Nat.le_trans HR.out.1.below.size (r5 q hq).1, (r5 q hq).2, fun e => by have := (hlt6 _ e).2; have := (r5 q hq).1; omega⟩) ho9 hg9 hw9)
        have HA9 := Lib.hid (And.intro hown (And.intro hrw (And.intro h63 (And.intro hby hbs))))
        have HX := Lib.hid (And.intro hrec' (And.intro hfu' (And.intro hspan hmap')))
        have hle : k + kk ≤ L.length := by omega
        have hkk : 0 < kk := by omega
        have HWl := Lib.hid (show (W ++ [bs]).length ≤ k + kk by rw [List.length_append, List.length_singleton]; omega)
        have hqi : ((Q + n6 + 1 : Nat) : Int) = (Q : Int) + (n6 : Int) + 1 := by omega
        rw [hqi]
        obtain ⟨nb, hnb⟩ : ∃ nb, nb = bs.length := ⟨_, rfl⟩
        rw [← hnb] at HA9 HT9 HX ⊢
        clear hn3 hb3 hri3 r1 r2 r3 r4 r5 u1 u2 u3 u4 u5 hfl hsec hu hown hrw h63 hby hbs hrec' hfu' hspan hmap' HR HAt HTl hlt6 hnb hqi hn6W hf'
        go_wp2_with (first | (at_builtin; refine Two.append_apart encV_len Nat.zero_lt_one encV_one rfl (.tmp 40) (.tmp 42) 29 27 rfl Try.underlying29 (.slice none 0 0) 24 info_sl rfl w.heap.size (.slice a6 n6 c6) ss rfl HA9.out.1 (some ⟨w3.heap.size, 0, none⟩) 1 1 [⟨a3, nb, c3, bs⟩] rfl rfl HA9.out.2.1 (fun h => by cases h) HA9.out.2.2.1 HA9.out.2.2.2.1 HA9.out.2.2.2.2 ?_; intro v9 w9 ho9 hg9 hw9; have HP := Lib.hid (HT9.out v9 w9 ho9 hg9 hw9); clear ho9 hg9 hw9 HA9 HT9) | fail)
        go_step3
        refine ⟨rfl, ⟨v9, _, W ++ [bs], f', _, _, _, _, _, _, _, _, _, _, _, _, _, _, _, _, _, _, _, _, _, _, _, _, _, _, _, _, _, _, _, _, _, _, _, _, _, _, _, _, _, by rw [HX.out.2.2.1]; rfl, HP.out, HX.out.2.2.2, by rw [HX.out.2.2.1]; exact hle, by rw [HX.out.2.2.1]; exact HWl.out, HX.out.2.1, by rw [HX.out.2.2.1]; exact HX.out.1⟩, ?_⟩
        simp only [secsAt, intOf]
        simp
        omega
      · have hend : recs E f0 Q L = W := by
          rw [HR.out.2.2.2.2.1, recs_none (fun e' q' b' k' h => by rw [hu] at h; injection h with h; injection h with e1 h; injection h with e2 h; subst e1 e2; intro hh; exact hyes ⟨hh.1, by omega⟩), List.append_nil]
        have HX := Lib.hid (And.intro hri3 (And.intro hend HR.out.2.1))
        have HK := Lib.hid HR.out.2.2.1
        have hor : ¬ (e : Int) = E ∨ ((e : Int) = E ∧ ¬ (q : Int) = (Q : Int) + (n6 : Int) + 1) := by omega
        clear hn3 hb3 hri3 hu hend HR HAt HTl hlt6 r1 r2 r3 r4 r5 u1 u2 u3 u4 u5 hfl hsec hyes hn6W
        rcases hor with ho | ⟨ho, ho2⟩
        all_goals
          go_wp2_with fail
          simp only [jumps_ret]
          go_ret2
          rw [HX.out.2.1]
          exact ⟨_, by rw [HK.out]; rfl, ri_list HX.out.1 HX.out.2.2, HX.out.1.below⟩
  · intro hp0
    have HP0 := Lib.hid hp0
    clear hp0
    go_wp2
    go_step3
    rename_i hK
    refine hK _ _ (HP0.out _ _ ?_)
    exact ⟨.slice none 0 0, [], [], f0, _, _, _, _, _, _, _, _, _, _, _, _, _, _, _, _, _, _, _, _, _, _, _, _, _, _, _, _, _, _, _, _, _, _, _, _, _, _, _, _, _, rfl, ⟨owns_nil _ _ _, Below.refl _ _, fun s hs => by cases hs⟩, rfl, Nat.zero_le _, Nat.le_refl _, rfl, rfl⟩
end Go.Proofs.Ytdgfoldobofgoaa.Jrn
