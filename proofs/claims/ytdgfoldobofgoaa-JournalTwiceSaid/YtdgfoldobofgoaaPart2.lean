/- Common to the claims of this seat, part 2: texts that were written one by one, laid behind one another. -/
import Derived.Laws.ResultCell
import Derived.Scope
import Derived.WalkMore
import Derived.Test.YtdgfoldobofgoaaPart1
/- Journal: what the program's journal is to do, whatever its code; lists of texts in memory. -/
namespace Go.Proofs.Ytdgfoldobofgoaa.Jrn
open Go.RowKit
open Go.Sort
open Kit
open Oct
open Chk
open Frm
open Foot
open Dsk (Sec DS mix mix_at mix_length mix_whole mix_none)
set_option linter.unusedVariables false

/-! ### Lists of texts -/

structure Sv where
  a : Option Addr
  n : Nat
  c : Nat
  l : Bs
def Sv.val (s : Sv) : Value := .slice s.a s.n s.c
def encV (s : Sv) : List Value := [s.val]
theorem encV_len (s : Sv) : (encV s).length = 1 := rfl
theorem encV_one (s : Sv) : ∀ u ∈ encV s, u.oneCell' = true := by
  intro u hu
  simp [encV] at hu
  subst hu; rfl
abbrev SvOk (w : World) (s : Sv) : Prop := Arg w s.a s.n s.c s.l
theorem sv_keep {w w' : World} {s : Sv} (h : SvOk w s) (hb : Below w.heap.size w w') : SvOk w' s := arg_keep h hb
/-- A list of texts that can be read. -/
def ListB (w : World) (v : Value) (ls : List Bs) : Prop := ∃ (a : Option Addr) (c : Nat) (ss : List Sv), v = .slice a ss.length c ∧ ss.length ≤ c ∧ c ≤ maxLen ∧ (a = none → ss.length = 0 ∧ c = 0) ∧ Kit.Row encV 1 w a ss ∧ (∀ s ∈ ss, SvOk w s) ∧ ss.map (·.l) = ls
theorem list_keep {w w' : World} {v : Value} {ls : List Bs} (h : ListB w v ls) (hb : Below w.heap.size w w') : ListB w' v ls := by
  obtain ⟨a, c, ss, h1, h2, h3, h4, h5, h6, h7⟩ := h
  exact ⟨a, c, ss, h1, h2, h3, h4, row_keep encV_len h5 hb, fun s hs => sv_keep (h6 s hs) hb, h7⟩

/-- A text, and a list of texts, that lie in such blocks. -/
def TxtF (w : World) (P : Nat → Prop) (v : Value) (l : Bs) : Prop := ∃ a c, v = .slice a l.length c ∧ Arg w a l.length c l ∧ ∀ q, a = some q → P q.block
def ListF (w : World) (P : Nat → Prop) (v : Value) (ls : List Bs) : Prop := ∃ (a : Option Addr) (c : Nat) (ss : List Sv), v = .slice a ss.length c ∧ ss.length ≤ c ∧ c ≤ maxLen ∧ (a = none → ss.length = 0 ∧ c = 0) ∧ Kit.Row encV 1 w a ss ∧ (∀ s ∈ ss, SvOk w s) ∧ ss.map (·.l) = ls ∧ (∀ q, a = some q → P q.block) ∧ ∀ s ∈ ss, ∀ q, s.a = some q → P q.block
theorem listF_b {w : World} {P : Nat → Prop} {v : Value} {ls : List Bs} (h : ListF w P v ls) : ListB w v ls := by
  obtain ⟨a, c, ss, h1, h2, h3, h4, h5, h6, h7, _⟩ := h
  exact ⟨a, c, ss, h1, h2, h3, h4, h5, h6, h7⟩
theorem row_far {α : Type} {enc : α → List Value} {size : Nat} (hs : ∀ x, (enc x).length = size) {w w' : World} {H P : Nat → Prop} {a : Option Addr} {l : List α} (hC : Chg H w w') (hP : ∀ k, P k → ¬ H k) (h : Kit.Row enc size w a l) (hq : ∀ q, a = some q → P q.block) : Kit.Row enc size w' a l := by
  rcases h with e | ⟨b, o, e, h2⟩
  · exact .inl e
  · subst e
    exact row_chg hs hC (.inr ⟨b, o, rfl, h2⟩) (hP _ (hq _ rfl))
theorem arg_far {w w' : World} {H P : Nat → Prop} {a : Option Addr} {n c : Nat} {l : Bs} (hC : Chg H w w') (hP : ∀ k, P k → ¬ H k) (h : Arg w a n c l) (hq : ∀ q, a = some q → P q.block) : Arg w' a n c l := ⟨h.len, h.cap, h.max, h.nil, row_far encB_len hC hP h.row hq⟩
theorem txt_chg {w w' : World} {H P Q : Nat → Prop} {v : Value} {l : Bs} (h : TxtF w P v l) (hC : Chg H w w') (hP : ∀ k, P k → ¬ H k) (hQ : ∀ k, P k → Q k) : TxtF w' Q v l := by
  obtain ⟨a, c, h1, h2, h3⟩ := h
  exact ⟨a, c, h1, arg_far hC hP h2 h3, fun q hq => hQ _ (h3 q hq)⟩
theorem list_chg {w w' : World} {H P Q : Nat → Prop} {v : Value} {ls : List Bs} (h : ListF w P v ls) (hC : Chg H w w') (hP : ∀ k, P k → ¬ H k) (hQ : ∀ k, P k → Q k) : ListF w' Q v ls := by
  obtain ⟨a, c, ss, h1, h2, h3, h4, h5, h6, h7, h8, h9⟩ := h
  exact ⟨a, c, ss, h1, h2, h3, h4, row_far encV_len hC hP h5 h8, fun s hs => arg_far hC hP (h6 s hs) (h9 s hs), h7, fun q hq => hQ _ (h8 q hq), fun s hs q hq => hQ _ (h9 s hs q hq)⟩

/-! ### The journal -/

structure JOk (j : JS) (n : Nat) : Prop where
  slot : 1 ≤ j.slot ∧ 2 * j.slot < n
  place : j.place ≤ 1
  epoch : j.epoch < 4294967296
  seq : j.seq < 4294967296
  next : 2 * j.slot ≤ j.next ∧ j.next ≤ n

abbrev inI (n : Int) : Prop := -9223372036854775808 ≤ n ∧ n ≤ 9223372036854775807
variable {D : World → (Nat → Prop) → Nat → DS → Prop} {J : World → (Nat → Prop) → Nat → Nat → JS → Prop}
/-- What Open answers. -/
def OpenE (J : World → (Nat → Prop) → Nat → Nat → JS → Prop) (w : World) (p : Nat) (n : Nat) (r : Option (JS × Bs × List Bs)) (e : Ending) (w' : World) : Prop := match r with
  | none => ∃ va vl, e = .returned (.tuple #[.pointer none, va, vl, .int .i64 (n : Nat)]) ∧ NewB w' w.heap.size va [] ∧ ListB w' vl []
  | some (j, b, l) => ∃ pj G va vl, e = .returned (.tuple #[.pointer (some ⟨pj, 0, none⟩), va, vl, .int .i64 (n : Nat)]) ∧ J w' G pj p j ∧ (∀ k, G k → w.heap.size ≤ k ∧ k < w'.heap.size) ∧ TxtF w' (fun k => w.heap.size ≤ k ∧ k < w'.heap.size ∧ ¬ G k) va b ∧ ListF w' (fun k => w.heap.size ≤ k ∧ k < w'.heap.size ∧ ¬ G k) vl l

/-- The disk's checkpoint is where the journal takes it to be. -/
def Seen (j : JS) (s : DS) : Prop := j.down = false → ∃ E Q b, pick s.now j.slot = some (j.place, E, Q, b)
structure JProg (D : World → (Nat → Prop) → Nat → DS → Prop) (J : World → (Nat → Prop) → Nat → Nat → JS → Prop) : Prop where
  chg : ∀ {w w' : World} {F G : Nat → Prop} {pj p : Nat} {j : JS}, J w F pj p j → Chg G w w' → (∀ k, F k → ¬ G k) → J w' F pj p j
  format : ∀ {w : World} {F : Nat → Prop} {p : Nat} {s : DS}, D w F p s → (∀ k, F k → k < w.heap.size) → s.good.length ≤ 100 → ∀ (slot : Int) (aa : Option Addr) (len cap : Nat) (b : Bs), inI slot → Arg w aa len cap b → len ≤ 3000 → (0 < len → ∀ q, aa = some q → ¬ F q.block) →
    Calls Try.prog 8 #[.pointer (some ⟨p, 0, none⟩), .int .i64 slot, .slice aa len cap] w fun e w' => ∃ n s', e = .returned (.int .i64 (n : Nat)) ∧ FormatR s slot b n s' ∧ D w' (More F w w') p s' ∧ Chg F w w'
  formatArg : ∀ {w : World} {F : Nat → Prop} {p : Nat} {s : DS}, D w F p s → ∀ (slot : Int) (aa : Option Addr) (len cap : Nat) (b : Bs), inI slot → Arg w aa len cap b → ¬ partOk s.good.length slot →
    Calls Try.prog 8 #[.pointer (some ⟨p, 0, none⟩), .int .i64 slot, .slice aa len cap] w fun e w' => e = .returned (.int .i64 1) ∧ Below w.heap.size w w'
  formatNil : ∀ (slot : Int) (aa : Option Addr) (len cap : Nat) (b : Bs) (w : World), inI slot → Arg w aa len cap b →
    Calls Try.prog 8 #[.pointer none, .int .i64 slot, .slice aa len cap] w fun e w' => e = .returned (.int .i64 1) ∧ Below w.heap.size w w'
  opens : ∀ {w : World} {F : Nat → Prop} {p : Nat} {s : DS}, D w F p s → (∀ k, F k → k < w.heap.size) → s.good.length ≤ 100 → ∀ (slot : Int), inI slot →
    Calls Try.prog 10 #[.pointer (some ⟨p, 0, none⟩), .int .i64 slot] w fun e w' => ∃ n r, OpenR s slot n r ∧ OpenE J w p n r e w' ∧ Below w.heap.size w w'
  checkpoint : ∀ {w : World} {F G : Nat → Prop} {pj p : Nat} {s : DS} {j : JS}, D w F p s → J w G pj p j → (∀ k, F k → k < w.heap.size) → (∀ k, G k → k < w.heap.size) → (∀ k, F k → ¬ G k) → s.good.length ≤ 100 → JOk j s.good.length → Seen j s → ∀ (aa : Option Addr) (len cap : Nat) (b : Bs), Arg w aa len cap b → len ≤ 3000 → (0 < len → ∀ q, aa = some q → ¬ F q.block ∧ ¬ G q.block) →
    Calls Try.prog 15 #[.pointer (some ⟨pj, 0, none⟩), .slice aa len cap] w fun e w' => ∃ n j' s', e = .returned (.int .i64 (n : Nat)) ∧ CkR j s b n j' s' ∧ D w' (More F w w') p s' ∧ J w' G pj p j' ∧ Chg (fun k => F k ∨ G k) w w'
  append : ∀ {w : World} {F G : Nat → Prop} {pj p : Nat} {s : DS} {j : JS}, D w F p s → J w G pj p j → (∀ k, F k → k < w.heap.size) → (∀ k, G k → k < w.heap.size) → (∀ k, F k → ¬ G k) → s.good.length ≤ 100 → JOk j s.good.length → ∀ (aa : Option Addr) (len cap : Nat) (b : Bs), Arg w aa len cap b → len ≤ 3000 → (0 < len → ∀ q, aa = some q → ¬ F q.block ∧ ¬ G q.block) →
    Calls Try.prog 16 #[.pointer (some ⟨pj, 0, none⟩), .slice aa len cap] w fun e w' => ∃ n j' s', e = .returned (.int .i64 (n : Nat)) ∧ ApR j s b n j' s' ∧ D w' (More F w w') p s' ∧ J w' G pj p j' ∧ Chg (fun k => F k ∨ G k) w w'
  commit : ∀ {w : World} {F G : Nat → Prop} {pj p : Nat} {s : DS} {j : JS}, D w F p s → J w G pj p j → (∀ k, F k → k < w.heap.size) → (∀ k, G k → k < w.heap.size) → (∀ k, F k → ¬ G k) → s.good.length ≤ 100 → JOk j s.good.length →
    Calls Try.prog 14 #[.pointer (some ⟨pj, 0, none⟩)] w fun e w' => ∃ n j' s', e = .returned (.int .i64 (n : Nat)) ∧ CoR j s n j' s' ∧ D w' (More F w w') p s' ∧ J w' G pj p j' ∧ Chg (fun k => F k ∨ G k) w w'
  seq : ∀ {w : World} {G : Nat → Prop} {pj p : Nat} {j : JS}, J w G pj p j → Calls Try.prog 19 #[.pointer (some ⟨pj, 0, none⟩)] w fun e w' => e = .returned (.int .i64 (j.seq : Nat)) ∧ Below w.heap.size w w'
  epoch : ∀ {w : World} {G : Nat → Prop} {pj p : Nat} {j : JS}, J w G pj p j → Calls Try.prog 20 #[.pointer (some ⟨pj, 0, none⟩)] w fun e w' => e = .returned (.int .i64 (j.epoch : Nat)) ∧ Below w.heap.size w w'
  room : ∀ {w : World} {F G : Nat → Prop} {pj p : Nat} {s : DS} {j : JS}, D w F p s → J w G pj p j → s.good.length ≤ 100 → JOk j s.good.length → Calls Try.prog 21 #[.pointer (some ⟨pj, 0, none⟩)] w fun e w' => e = .returned (.int .i64 ((s.good.length - j.next : Nat) : Int)) ∧ Below w.heap.size w w'
  checkpointNil : ∀ (aa : Option Addr) (len cap : Nat) (b : Bs) (w : World), Arg w aa len cap b → Calls Try.prog 15 #[.pointer none, .slice aa len cap] w fun e w' => e = .returned (.int .i64 1) ∧ Below w.heap.size w w'
  appendNil : ∀ (aa : Option Addr) (len cap : Nat) (b : Bs) (w : World), Arg w aa len cap b → Calls Try.prog 16 #[.pointer none, .slice aa len cap] w fun e w' => e = .returned (.int .i64 1) ∧ Below w.heap.size w w'
  commitNil : ∀ (w : World), Calls Try.prog 14 #[.pointer none] w fun e w' => e = .returned (.int .i64 1) ∧ Below w.heap.size w w'
  seqNil : ∀ (w : World), Calls Try.prog 19 #[.pointer none] w fun e w' => e = .returned (.int .i64 0) ∧ Below w.heap.size w w'
  epochNil : ∀ (w : World), Calls Try.prog 20 #[.pointer none] w fun e w' => e = .returned (.int .i64 0) ∧ Below w.heap.size w w'
  roomNil : ∀ (w : World), Calls Try.prog 21 #[.pointer none] w fun e w' => e = .returned (.int .i64 0) ∧ Below w.heap.size w w'

/-! ### A disk and its journal -/

structure Both (D : World → (Nat → Prop) → Nat → DS → Prop) (J : World → (Nat → Prop) → Nat → Nat → JS → Prop) (B : Nat) (w : World) (F G : Nat → Prop) (p pj : Nat) (s : DS) (j : JS) : Prop where
  d : D w F p s
  j : J w G pj p j
  flt : ∀ k, F k → B ≤ k ∧ k < w.heap.size
  glt : ∀ k, G k → B ≤ k ∧ k < w.heap.size
  apart : ∀ k, F k → ¬ G k
variable {B p pj : Nat} {w w' : World} {F G : Nat → Prop} {s s' : DS} {j j' : JS}
theorem both_keep (hD : Dsk.Prog D) (hJ : JProg D J) (h : Both D J B w F G p pj s j) (hb : Below w.heap.size w w') : Both D J B w' F G p pj s j :=
  ⟨hD.chg h.d (new_chg hb (fun _ => False)) (fun _ _ => id), hJ.chg h.j (new_chg hb (fun _ => False)) (fun _ _ => id), fun k hk => ⟨(h.flt k hk).1, Nat.lt_of_lt_of_le (h.flt k hk).2 hb.size⟩, fun k hk => ⟨(h.glt k hk).1, Nat.lt_of_lt_of_le (h.glt k hk).2 hb.size⟩, h.apart⟩
/-- Both do something. -/
theorem both_more (h : Both D J B w F G p pj s j) (hd : D w' (More F w w') p s') (hj : J w' G pj p j') (hC : Chg (fun k => F k ∨ G k) w w') (hB : B ≤ w.heap.size) : Both D J B w' (More F w w') G p pj s' j' ∧ Below B w w' :=
  ⟨⟨hd, hj, fun k hk => ⟨more_ge (fun k hk => (h.flt k hk).1) hB hk, more_lt (fun k hk => (h.flt k hk).2) hC.size hk⟩, fun k hk => ⟨(h.glt k hk).1, Nat.lt_of_lt_of_le (h.glt k hk).2 hC.size⟩, fun k hk => more_apart (fun k hk => (h.glt k hk).2) h.apart hk⟩,
    chg_below hC (fun k hk => hk.elim (fun hk => (h.flt k hk).1) fun hk => (h.glt k hk).1) hB⟩
/-- The disk alone does something. -/
theorem both_disk (hJ : JProg D J) (h : Both D J B w F G p pj s j) (hd : D w' (More F w w') p s') (hC : Chg F w w') (hB : B ≤ w.heap.size) : Both D J B w' (More F w w') G p pj s' j ∧ Below B w w' :=
  both_more h hd (hJ.chg h.j hC fun k hg hf => h.apart k hf hg) (chg_mono hC fun k _ hk => .inl hk) hB
/-- What lies apart from both. -/
theorem both_far {x : Nat} (h : Both D J B w F G p pj s j) (hx : x < B) : ¬ F x ∧ ¬ G x := ⟨fun hf => by have := (h.flt x hf).1; omega, fun hg => by have := (h.glt x hg).1; omega⟩
/-! ### What a call leaves -/

/-- Blocks of neither. -/
def Apt (F G : Nat → Prop) (w : World) (k : Nat) : Prop := ¬ F k ∧ ¬ G k ∧ k < w.heap.size
/-- Behind a call: the disk's blocks may be more, and theirs alone, or new ones, have changed. -/
structure Stp (D : World → (Nat → Prop) → Nat → DS → Prop) (J : World → (Nat → Prop) → Nat → Nat → JS → Prop) (B : Nat) (w : World) (F G : Nat → Prop) (w' : World) (F' : Nat → Prop) (p pj : Nat) (s : DS) (j : JS) : Prop where
  both : Both D J B w' F' G p pj s j
  below : Below B w w'
  chg : Chg (fun k => F k ∨ G k) w w'
  more : ∀ k, F' k → F k ∨ w.heap.size ≤ k
theorem stp_more (h : Both D J B w F G p pj s j) (hd : D w' (More F w w') p s') (hj : J w' G pj p j') (hC : Chg (fun k => F k ∨ G k) w w') (hB : B ≤ w.heap.size) : Stp D J B w F G w' (More F w w') p pj s' j' :=
  ⟨(both_more h hd hj hC hB).1, (both_more h hd hj hC hB).2, hC, fun k hk => hk.imp id fun h => h.1⟩
theorem stp_disk (hJ : JProg D J) (h : Both D J B w F G p pj s j) (hd : D w' (More F w w') p s') (hC : Chg F w w') (hB : B ≤ w.heap.size) : Stp D J B w F G w' (More F w w') p pj s' j :=
  stp_more h hd (hJ.chg h.j hC fun k hg hf => h.apart k hf hg) (chg_mono hC fun k _ hk => .inl hk) hB
theorem stp_apt {F' : Nat → Prop} (h : Stp D J B w F G w' F' p pj s j) {k : Nat} (hk : Apt F G w k) : ¬ (F k ∨ G k) ∧ Apt F' G w' k := by
  obtain ⟨h1, h2, h3⟩ := hk
  exact ⟨fun hh => hh.elim h1 h2, fun hf => (h.more k hf).elim h1 fun h' => by omega, h2, Nat.lt_of_lt_of_le h3 h.chg.size⟩
theorem stp_txt {F' : Nat → Prop} {v : Value} {l : Bs} (h : Stp D J B w F G w' F' p pj s j) (ht : TxtF w (Apt F G w) v l) : TxtF w' (Apt F' G w') v l := txt_chg ht h.chg (fun k hk => (stp_apt h hk).1) fun k hk => (stp_apt h hk).2
theorem stp_list {F' : Nat → Prop} {v : Value} {l : List Bs} (h : Stp D J B w F G w' F' p pj s j) (ht : ListF w (Apt F G w) v l) : ListF w' (Apt F' G w') v l := list_chg ht h.chg (fun k hk => (stp_apt h hk).1) fun k hk => (stp_apt h hk).2
theorem apt_keep (hb : Below w.heap.size w w') {k : Nat} (hk : Apt F G w k) : Apt F G w' k := ⟨hk.1, hk.2.1, Nat.lt_of_lt_of_le hk.2.2 hb.size⟩
theorem txt_keep {v : Value} {l : Bs} (hb : Below w.heap.size w w') (ht : TxtF w (Apt F G w) v l) : TxtF w' (Apt F G w') v l := txt_chg ht (new_chg hb (fun _ => False)) (fun _ _ => id) fun k hk => apt_keep hb hk
theorem step_append (hJ : JProg D J) (h : Both D J B w F G p pj s j) (hB : B ≤ w.heap.size) (hs : s.good.length ≤ 100) (hj : JOk j s.good.length) (aa : Option Addr) (len cap : Nat) (b : Bs) (ha : Arg w aa len cap b) (hl : len ≤ 3000) (hq : 0 < len → ∀ q, aa = some q → ¬ F q.block ∧ ¬ G q.block) :
    Calls Try.prog 16 #[.pointer (some ⟨pj, 0, none⟩), .slice aa len cap] w fun e w' => ∃ n j' s' F', e = .returned (.int .i64 (n : Nat)) ∧ ApR j s b n j' s' ∧ Stp D J B w F G w' F' p pj s' j' := by
  refine (hJ.append h.d h.j (fun k hk => (h.flt k hk).2) (fun k hk => (h.glt k hk).2) h.apart hs hj aa len cap b ha hl hq).mono ?_
  rintro e w' ⟨n, j', s', he, hr, hd, hj, hC⟩
  exact ⟨n, j', s', _, he, hr, stp_more h hd hj hC hB⟩
theorem step_checkpoint (hJ : JProg D J) (h : Both D J B w F G p pj s j) (hB : B ≤ w.heap.size) (hs : s.good.length ≤ 100) (hj : JOk j s.good.length) (hsee : Seen j s) (aa : Option Addr) (len cap : Nat) (b : Bs) (ha : Arg w aa len cap b) (hl : len ≤ 3000) (hq : 0 < len → ∀ q, aa = some q → ¬ F q.block ∧ ¬ G q.block) :
    Calls Try.prog 15 #[.pointer (some ⟨pj, 0, none⟩), .slice aa len cap] w fun e w' => ∃ n j' s' F', e = .returned (.int .i64 (n : Nat)) ∧ CkR j s b n j' s' ∧ Stp D J B w F G w' F' p pj s' j' := by
  refine (hJ.checkpoint h.d h.j (fun k hk => (h.flt k hk).2) (fun k hk => (h.glt k hk).2) h.apart hs hj hsee aa len cap b ha hl hq).mono ?_
  rintro e w' ⟨n, j', s', he, hr, hd, hj, hC⟩
  exact ⟨n, j', s', _, he, hr, stp_more h hd hj hC hB⟩
theorem step_commit (hJ : JProg D J) (h : Both D J B w F G p pj s j) (hB : B ≤ w.heap.size) (hs : s.good.length ≤ 100) (hj : JOk j s.good.length) :
    Calls Try.prog 14 #[.pointer (some ⟨pj, 0, none⟩)] w fun e w' => ∃ n j' s' F', e = .returned (.int .i64 (n : Nat)) ∧ CoR j s n j' s' ∧ Stp D J B w F G w' F' p pj s' j' := by
  refine (hJ.commit h.d h.j (fun k hk => (h.flt k hk).2) (fun k hk => (h.glt k hk).2) h.apart hs hj).mono ?_
  rintro e w' ⟨n, j', s', he, hr, hd, hj, hC⟩
  exact ⟨n, j', s', _, he, hr, stp_more h hd hj hC hB⟩
theorem step_crash (hD : Dsk.Prog D) (hJ : JProg D J) (h : Both D J B w F G p pj s j) (hB : B ≤ w.heap.size) (keep torn cut : Int) (h1 : inI keep) (h2 : inI torn) (h3 : inI cut) :
    Calls Try.prog 11 #[.pointer (some ⟨p, 0, none⟩), .int .i64 keep, .int .i64 torn, .int .i64 cut] w fun e w' => ∃ F', e = .returned (.tuple #[]) ∧ Stp D J B w F G w' F' p pj (s.crash keep torn cut) j := by
  refine (hD.crash h.d (fun k hk => (h.flt k hk).2) keep torn cut h1 h2 h3).mono ?_
  rintro e w' ⟨he, hd, hC⟩
  exact ⟨_, he, stp_disk hJ h hd hC hB⟩
theorem step_fuse (hD : Dsk.Prog D) (hJ : JProg D J) (h : Both D J B w F G p pj s j) (hB : B ≤ w.heap.size) (n : Int) (h1 : inI n) :
    Calls Try.prog 13 #[.pointer (some ⟨p, 0, none⟩), .int .i64 n] w fun e w' => ∃ F', e = .returned (.tuple #[]) ∧ Stp D J B w F G w' F' p pj { s with fuse := Dsk.nf n } j := by
  refine (hD.fuse h.d (fun k hk => (h.flt k hk).2) n h1).mono ?_
  rintro e w' ⟨he, hd, hC⟩
  exact ⟨_, he, stp_disk hJ h hd hC hB⟩
/-- A disk alone: Format. -/
theorem step_format (hD : Dsk.Prog D) (hJ : JProg D J) {B : Nat} {w : World} {F : Nat → Prop} {p : Nat} {s : DS} (h : Dsk.OneF D B w F p s) (hB : B ≤ w.heap.size) (hs : s.good.length ≤ 100) (slot : Int) (hsl : inI slot) (aa : Option Addr) (len cap : Nat) (b : Bs) (ha : Arg w aa len cap b) (hl : len ≤ 3000) (hq : 0 < len → ∀ q, aa = some q → ¬ F q.block) :
    Calls Try.prog 8 #[.pointer (some ⟨p, 0, none⟩), .int .i64 slot, .slice aa len cap] w fun e w' => ∃ n s' F', e = .returned (.int .i64 (n : Nat)) ∧ FormatR s slot b n s' ∧ Dsk.OneF D B w' F' p s' ∧ Below B w w' := by
  refine (hJ.format h.d (fun k hk => (h.lt k hk).2) hs slot aa len cap b hsl ha hl hq).mono ?_
  rintro e w' ⟨n, s', he, hr, hd, hC⟩
  exact ⟨n, s', _, he, hr, Dsk.one_more hD h hd hC hB, Dsk.one_below h hC hB⟩
/-- What was handed in lies apart. -/
theorem arg_lt {W : World} {a : Option Addr} {n c : Nat} {l : Bs} (h : Arg W a n c l) (hn : 0 < n) : ∀ q, a = some q → q.block < W.heap.size := by
  intro q hq
  rcases h.row with e | ⟨b, o, e, h2⟩
  · have := h.len; rw [e] at this; simp at this; omega
  · rw [e] at hq
    injection hq with hq
    subst hq
    have hc := row_cell (.inr ⟨b, o, rfl, h2⟩) (show 0 < l.length by rw [h.len]; exact hn) rfl (i := 0) (by omega)
    exact World.block_lt_of_cell? W _ hc
theorem args_apart {W : World} {a : Option Addr} {n c : Nat} {l : Bs} (h : Arg W a n c l) (hbo : Both D J W.heap.size w F G p pj s j) (hn : 0 < n) : ∀ q, a = some q → ¬ F q.block ∧ ¬ G q.block := fun q hq => both_far hbo (arg_lt h hn q hq)
/-- A disk alone: Open. -/
theorem step_open (hD : Dsk.Prog D) (hJ : JProg D J) {B : Nat} {w : World} {F : Nat → Prop} {p : Nat} {s : DS} (h : Dsk.OneF D B w F p s) (hB : B ≤ w.heap.size) (hs : s.good.length ≤ 100) (slot : Int) (hsl : inI slot) :
    Calls Try.prog 10 #[.pointer (some ⟨p, 0, none⟩), .int .i64 slot] w fun e w' => ∃ n r, OpenR s slot n r ∧ Below w.heap.size w w' ∧ match r with
      | none => ∃ va vl, e = .returned (.tuple #[.pointer none, va, vl, .int .i64 (n : Nat)]) ∧ NewB w' w.heap.size va [] ∧ ListB w' vl []
      | some (j, b, l) => ∃ pj G va vl, e = .returned (.tuple #[.pointer (some ⟨pj, 0, none⟩), va, vl, .int .i64 (n : Nat)]) ∧ Both D J B w' F G p pj s j ∧ (∀ k, G k → w.heap.size ≤ k) ∧ TxtF w' (Apt F G w') va b ∧ ListF w' (Apt F G w') vl l := by
  refine (hJ.opens h.d (fun k hk => (h.lt k hk).2) hs slot hsl).mono ?_
  rintro e w' ⟨n, r, hr, he, hb⟩
  refine ⟨n, r, hr, hb, ?_⟩
  match r, he with
  | none, he => exact he
  | some (j, b, l), he =>
    obtain ⟨pj, G, va, vl, h1, h2, h3, h4, h5⟩ := he
    have hap : ∀ k, w.heap.size ≤ k ∧ k < w'.heap.size ∧ ¬ G k → Apt F G w' k := fun k hk => ⟨fun hf => by have := (h.lt k hf).2; omega, hk.2.2, hk.2.1⟩
    have h0 := Dsk.one_keep hD h hb
    exact ⟨pj, G, va, vl, h1, ⟨h0.d, h2, h0.lt, fun k hk => ⟨Nat.le_trans hB (h3 k hk).1, (h3 k hk).2⟩, fun k hf hg => by have := (h3 k hg).1; have := (h.lt k hf).2; omega⟩, fun k hk => (h3 k hk).1, txt_chg h4 (chg_refl (fun _ => False) _) (fun _ _ => id) hap, list_chg h5 (chg_refl (fun _ => False) _) (fun _ _ => id) hap⟩

/-! ### Without a fuse -/

theorem format_free {slot : Int} {b : Bs} {n : Nat} (h : FormatR s slot b n s') (hf : s.fuse = -1) (hp : partOk s.good.length slot) (hb : b.length ≤ 65535) (hs : (secs b.length : Int) ≤ slot) : n = 0 ∧ s'.good = over s.now 0 (secsB 1 0 b) ∧ s'.now = over s.now 0 (secsB 1 0 b) ∧ s'.fuse = -1 := by
  cases h with
  | arg h => exact absurd hp h
  | big h h1 => omega
  | full h h1 h2 => omega
  | done s' h h1 h2 hs => exact ⟨rfl, hs.good, hs.now, hs.fuse hf⟩
  | down s' h h1 h2 hs => exact absurd hf hs.fuse
theorem open_some {slot : Int} {n p E Q : Nat} {b : Bs} {r : Option (JS × Bs × List Bs)} (h : OpenR s slot n r) (hp : partOk s.good.length slot) (hk : pick s.now slot.toNat = some (p, E, Q, b)) :
    n = 0 ∧ r = some ({ slot := slot.toNat, place := p, epoch := E, seq := Q + (listed s.now slot.toNat E Q).length, next := 2 * slot.toNat + span (listed s.now slot.toNat E Q), opened := false, down := false }, b, listed s.now slot.toNat E Q) := by
  cases h with
  | arg h => exact absurd hp h
  | lost h h1 => rw [h1] at hk; cases hk
  | done p' E' Q' b' h h1 =>
    rw [h1] at hk
    injection hk with hk
    injection hk with e1 hk
    injection hk with e2 hk
    injection hk with e3 e4
    subst e1 e2 e3 e4
    exact ⟨rfl, rfl⟩
theorem ck_free {n : Nat} {b : Bs} (h : CkR j s b n j' s') (hf : s.fuse = -1) (hd : j.down = false) (h1 : b.length ≤ 65535) (h2 : lastE s.now < 4294967295) (h3 : secs b.length ≤ j.slot) :
    n = 0 ∧ j' = { j with epoch := lastE s.now + 1, place := 1 - j.place, next := 2 * j.slot, opened := true } ∧ s'.good = over s.now ((1 - j.place) * j.slot) (secsB (lastE s.now + 1) j.seq b) ∧ s'.now = over s.now ((1 - j.place) * j.slot) (secsB (lastE s.now + 1) j.seq b) ∧ s'.fuse = -1 := by
  cases h with
  | dead h => rw [hd] at h; cases h
  | big h h1 => omega
  | full h h1 h2 => omega
  | done s' h h1 h2 hs => exact ⟨rfl, rfl, hs.good, hs.now, hs.fuse hf⟩
  | down s' h h1 h2 hs => exact absurd hf hs.fuse
theorem ap_free {n : Nat} {b : Bs} (h : ApR j s b n j' s') (hf : s.fuse = -1) (hd : j.down = false) (ho : j.opened = true) (h1 : b.length ≤ 65535) (h2 : j.seq < 4294967295) (h3 : j.next + secs b.length ≤ s.good.length) :
    n = 0 ∧ j' = { j with seq := j.seq + 1, next := j.next + secs b.length } ∧ s'.good = s.good ∧ s'.now = over s.now j.next (secsB j.epoch (j.seq + 1) b) ∧ s'.fuse = -1 := by
  cases h with
  | dead h => rw [hd] at h; cases h
  | closed h h1 => rw [ho] at h1; cases h1
  | big h h1 h2 => omega
  | full h h1 h2 h3 => omega
  | done s' h h1 h2 h3 hs => exact ⟨rfl, rfl, hs.good, hs.now, hs.fuse hf⟩
  | down s' h h1 h2 h3 hs => exact absurd hf hs.fuse
theorem ap_full {n : Nat} {b : Bs} (h : ApR j s b n j' s') (hd : j.down = false) (ho : j.opened = true) (h1 : b.length ≤ 65535) (h2 : j.seq < 4294967295) (h3 : s.good.length < j.next + secs b.length) : n = 5 ∧ j' = j ∧ s' = s := by
  cases h with
  | dead h => rw [hd] at h; cases h
  | closed h h1 => rw [ho] at h1; cases h1
  | big h h1 h2 => omega
  | full h h1 h2 h3 => exact ⟨rfl, rfl, rfl⟩
  | done s' h h1 h2 h3 hs => omega
  | down s' h h1 h2 h3 hs => omega
theorem ap_closed {n : Nat} {b : Bs} (h : ApR j s b n j' s') (hd : j.down = false) (ho : j.opened = false) : n = 9 ∧ j' = j ∧ s' = s := by
  cases h with
  | dead h => rw [hd] at h; cases h
  | closed h h1 => exact ⟨rfl, rfl, rfl⟩
  | big h h1 h2 => rw [ho] at h1; cases h1
  | full h h1 h2 h3 => rw [ho] at h1; cases h1
  | done s' h h1 h2 h3 hs => rw [ho] at h1; cases h1
  | down s' h h1 h2 h3 hs => rw [ho] at h1; cases h1
theorem co_free {n : Nat} (h : CoR j s n j' s') (hf : s.fuse = -1) (hd : j.down = false) (ho : j.opened = true) : n = 0 ∧ j' = j ∧ s'.good = s.now ∧ s'.now = s.now ∧ s'.fuse = -1 := by
  cases h with
  | dead h => rw [hd] at h; cases h
  | closed h h1 => rw [ho] at h1; cases h1
  | done s' h h1 hs => exact ⟨rfl, rfl, hs.good, hs.now, hs.fuse hf⟩
  | down s' h h1 hs hf' => exact absurd hf hf'
end Go.Proofs.Ytdgfoldobofgoaa.Jrn
/- Journal: the laws' fixed fact, over any journal that does as it should. -/
namespace Go.Proofs.Ytdgfoldobofgoaa.Jrn
open Go.RowKit
open Go.Sort
open Kit
open Oct
open Chk
open Frm
open Foot
open Dsk (Sec DS mix mix_at mix_length mix_whole mix_none)
set_option linter.unusedVariables false
variable {D : World → (Nat → Prop) → Nat → DS → Prop} {J : World → (Nat → Prop) → Nat → Nat → JS → Prop}

def firstB : Bs := [102, 105, 114, 115, 116]
def secondB : Bs := [115, 101, 99, 111, 110, 100]
def aw0 : List Sec := List.replicate 20 (List.replicate 32 0)
def aw1 : List Sec := over aw0 0 (secsB 1 0 firstB)
def aw2 : List Sec := over aw1 2 (secsB 2 0 secondB)
def aw3 : List Sec := over aw2 4 (secsB 2 1 [97])
def aw4 : List Sec := over aw3 5 (secsB 2 2 [98])
theorem aw1_pick : pick aw1 2 = some (0, 1, 0, firstB) := by decide +kernel
theorem aw1_list : listed aw1 2 1 0 = [] := by decide +kernel
theorem aw1_last : lastE aw1 = 1 := by decide +kernel
theorem aw4_pick : pick aw4 2 = some (1, 2, 0, secondB) := by decide +kernel
theorem aw4_list : listed aw4 2 2 0 = [[97], [98]] := by decide +kernel
theorem aw_len : aw1.length = 20 ∧ aw2.length = 20 ∧ aw4.length = 20 := by decide +kernel
theorem settle_none (now : List Sec) (order : List Nat) (g : List Sec) : ∀ n, n ≤ order.length → Dsk.settle 0 (-1) 0 now order n g = g
  | 0, _ => rfl
  | n + 1, h => by
    simp only [Dsk.settle]
    rw [settle_none now order g n (by omega)]
    have hm : Dsk.many 0 (-1) 0 n = 0 := by
      unfold Dsk.many
      rw [if_neg (by omega), if_neg]
      intro h
      have := h.2
      simp [Dsk.bitOf] at this
    rw [hm]
    generalize order.getD n 0 = i
    have : mix 0 (g.getD i []) (now.getD i []) = g.getD i [] := by simp [mix]
    rw [this]
    refine List.ext_getElem? fun k => ?_
    rw [List.getElem?_set]
    split
    · rename_i e
      subst e
      split
      · rename_i h; simp [List.getD, h]
      · rename_i h; rw [List.getElem?_eq_none (by omega)]
    · rfl
theorem crash_none (s : DS) : (s.crash 0 (-1) 0).good = s.good := settle_none _ _ _ _ (Nat.le_refl _)

/-! ### Constants handed in -/

variable {B p pj : Nat} {w w' : World} {F G : Nat → Prop} {s s' : DS} {j j' : JS}
theorem arg_const (w : World) (l : Bs) {n : Nat} (C : Array Value) (fr : Nat × Nat) (hC : C.toList = cellsB l) (hn : l.length = n) (hl : n ≤ 1000) : Arg (w.alloc (.cells C 5 fr)) (some ⟨w.heap.size, 0, none⟩) n n l :=
  ⟨hn, Nat.le_refl _, by unfold maxLen; omega, (fun h => by cases h), row_mark w C _ fr l hC⟩
theorem stp_back {w0 : World} {F' : Nat → Prop} (hb : Below w.heap.size w w0) (hB : B ≤ w.heap.size) (h : Stp D J B w0 F G w' F' p pj s j) : Stp D J B w F G w' F' p pj s j :=
  ⟨h.both, (hb.mono hB).trans h.below, chg_trans (new_chg hb _) h.chg (fun _ => .inl), fun k hk => (h.more k hk).imp id fun h' => Nat.le_trans hb.size h'⟩
theorem format_const (hD : Dsk.Prog D) (hJ : JProg D J) (h : Dsk.OneF D B w F p s) (hB : B ≤ w.heap.size) (hs : s.good.length ≤ 100) (slot : Int) (hsl : inI slot) (l : Bs) (n : Nat) (C : Array Value) (fr : Nat × Nat) (hC : C.toList = cellsB l) (hn : l.length = n) (hl : n ≤ 1000) :
    Calls Try.prog 8 #[.pointer (some ⟨p, 0, none⟩), .int .i64 slot, .slice (some ⟨w.heap.size, 0, none⟩) n n] (w.alloc (.cells C 5 fr)) fun e w' => ∃ n s' F', e = .returned (.int .i64 (n : Nat)) ∧ FormatR s slot l n s' ∧ Dsk.OneF D B w' F' p s' ∧ Below B w w' := by
  have hb := below_alloc w (.cells C 5 fr)
  have h1 := Dsk.one_keep hD h hb
  refine (hJ.format h1.d (fun k hk => (h1.lt k hk).2) hs slot _ n n l hsl (arg_const w l C fr hC hn hl) (by omega) (fun _ q hq hf => ?_)).mono ?_
  · injection hq with hq
    subst hq
    have := (h.lt _ hf).2
    exact absurd this (Nat.lt_irrefl _)
  · rintro e w' ⟨n, s', he, hr, hd, hC⟩
    have hB' : B ≤ (w.alloc (.cells C 5 fr)).heap.size := Nat.le_trans hB hb.size
    exact ⟨n, s', _, he, hr, Dsk.one_more hD h1 hd hC hB', (hb.mono hB).trans (Dsk.one_below h1 hC hB')⟩
theorem far_const (h : Both D J B w F G p pj s j) (q : Addr) (hq : some (⟨w.heap.size, 0, none⟩ : Addr) = some q) : ¬ F q.block ∧ ¬ G q.block := by
  injection hq with hq
  subst hq
  exact ⟨fun hf => absurd (h.flt _ hf).2 (Nat.lt_irrefl _), fun hg => absurd (h.glt _ hg).2 (Nat.lt_irrefl _)⟩
theorem append_const (hD : Dsk.Prog D) (hJ : JProg D J) (h : Both D J B w F G p pj s j) (hB : B ≤ w.heap.size) (hs : s.good.length ≤ 100) (hj : JOk j s.good.length) (l : Bs) (n : Nat) (C : Array Value) (fr : Nat × Nat) (hC : C.toList = cellsB l) (hn : l.length = n) (hl : n ≤ 1000) :
    Calls Try.prog 16 #[.pointer (some ⟨pj, 0, none⟩), .slice (some ⟨w.heap.size, 0, none⟩) n n] (w.alloc (.cells C 5 fr)) fun e w' => ∃ n j' s' F', e = .returned (.int .i64 (n : Nat)) ∧ ApR j s l n j' s' ∧ Stp D J B w F G w' F' p pj s' j' := by
  have hb := below_alloc w (.cells C 5 fr)
  refine (step_append hJ (both_keep hD hJ h hb) (Nat.le_trans hB hb.size) hs hj _ n n l (arg_const w l C fr hC hn hl) (by omega) (fun _ => far_const h)).mono ?_
  rintro e w' ⟨n, j', s', F', he, hr, ht⟩
  exact ⟨n, j', s', F', he, hr, stp_back hb hB ht⟩
theorem checkpoint_const (hD : Dsk.Prog D) (hJ : JProg D J) (h : Both D J B w F G p pj s j) (hB : B ≤ w.heap.size) (hs : s.good.length ≤ 100) (hj : JOk j s.good.length) (hsee : Seen j s) (l : Bs) (n : Nat) (C : Array Value) (fr : Nat × Nat) (hC : C.toList = cellsB l) (hn : l.length = n) (hl : n ≤ 1000) :
    Calls Try.prog 15 #[.pointer (some ⟨pj, 0, none⟩), .slice (some ⟨w.heap.size, 0, none⟩) n n] (w.alloc (.cells C 5 fr)) fun e w' => ∃ n j' s' F', e = .returned (.int .i64 (n : Nat)) ∧ CkR j s l n j' s' ∧ Stp D J B w F G w' F' p pj s' j' := by
  have hb := below_alloc w (.cells C 5 fr)
  refine (step_checkpoint hJ (both_keep hD hJ h hb) (Nat.le_trans hB hb.size) hs hj hsee _ n n l (arg_const w l C fr hC hn hl) (by omega) (fun _ => far_const h)).mono ?_
  rintro e w' ⟨n, j', s', F', he, hr, ht⟩
  exact ⟨n, j', s', F', he, hr, stp_back hb hB ht⟩

/-! ### Awake -/

/-- A journal in the fixed fact. -/
def awJ (p e q x : Nat) (o : Bool) : JS := { slot := 2, place := p, epoch := e, seq := q, next := x, opened := o, down := false }
theorem awJ_ok (p e q x : Nat) (o : Bool) (h1 : p ≤ 1) (h2 : e ≤ 9) (h3 : q ≤ 9) (h4 : 4 ≤ x) (h5 : x ≤ 20) {n : Nat} (hn : n = 20) : JOk (awJ p e q x o) n := by
  subst hn
  exact ⟨⟨by show 1 ≤ 2; omega, by show 2 * 2 < 20; omega⟩, h1, by show e < _; omega, by show q < _; omega, h4, h5⟩
theorem two_of_map {ss : List Sv} {x y : Bs} (h : ss.map (·.l) = [x, y]) : ∃ x0 x1, ss = [x0, x1] ∧ x0.l = x ∧ x1.l = y := by
  match ss, h with
  | [x0, x1], h => simp at h; exact ⟨x0, x1, rfl, h.1, h.2⟩
structure Aw (D : World → (Nat → Prop) → Nat → DS → Prop) (J : World → (Nat → Prop) → Nat → Nat → JS → Prop) (W w : World) (F G : Nat → Prop) (p pj : Nat) (s : DS) (j : JS) (v : Value) (g n : List Sec) : Prop where
  both : Both D J W.heap.size w F G p pj s j
  below : Below W.heap.size W w
  txt : TxtF w (Apt F G w) v firstB
  good : s.good = g
  now : s.now = n
  fuse : s.fuse = -1
theorem aw_step {W : World} {v : Value} {g n g' n' : List Sec} {F' : Nat → Prop} (h : Aw D J W w F G p pj s j v g n) (hs : Stp D J W.heap.size w F G w' F' p pj s' j') (hg : s'.good = g') (hn : s'.now = n') (hf : s'.fuse = -1) : Aw D J W w' F' G p pj s' j' v g' n' :=
  ⟨hs.both, h.below.trans hs.below, stp_txt hs h.txt, hg, hn, hf⟩
theorem kcTxt {w : World} {P : Nat → Prop} {v : Value} {l : Bs} (h : TxtF w P v l) : (convert 27 9 v).run Try.prog w = .ok (.string ⟨l.toArray⟩) w := by
  obtain ⟨a, c, rfl, h2, _⟩ := h
  exact conv_row (P := Try.prog) (src := 27) (dst := 9) Try.underlying27 Try.underlying5 Try.underlying9 rfl (fun e => (h2.nil e).1) h2.row

set_option maxRecDepth 100000 in
set_option maxHeartbeats 4000000 in
theorem awake_any (hD : Dsk.Prog D) (hJ : JProg D J) (W : World) : Calls Try.prog 18 #[] W fun e w' => e = .returned (.bool true) ∧ Below W.heap.size W w' := by
  go_enter Try.func18, Try.ntmps18
  go_wp2_with fail
  refine (hD.new 20 W (by omega) (by omega)).mono ?_
  rintro e w1 ⟨p, rfl, hd, hb⟩
  have one : Dsk.OneF D W.heap.size w1 (More (fun _ => False) W w1) p (DS.new 20) := ⟨hd, fun k hk => hk.elim (fun h => h.elim) id⟩
  generalize More (fun _ => False) W w1 = F1 at one
  have H1 := Lib.hid (And.intro one hb)
  clear one hd hb
  have kc := Lib.run_convert_bytes_const (P := Try.prog) w1 27 5 #[.int .u8 102, .int .u8 105, .int .u8 114, .int .u8 115, .int .u8 116] 5 5 Try.underlying27 Try.underlying5
  go_wp2_with fail
  clear kc
  refine (format_const hD hJ H1.out.1 H1.out.2.size (show (20 : Nat) ≤ 100 by omega) 2 ⟨by omega, by omega⟩ firstB 5 _ _ rfl rfl (by omega)).mono ?_
  rintro e w2 ⟨n, s2, F2, rfl, hr, one, hb⟩
  obtain ⟨rfl, hg, hn, hf⟩ := format_free hr rfl (show partOk (20 : Nat) 2 by decide) (by decide) (by decide)
  replace hg : s2.good = aw1 := hg
  replace hn : s2.now = aw1 := hn
  have H2 := Lib.hid (And.intro one (And.intro (H1.out.2.trans hb) (And.intro hg (And.intro hn hf))))
  clear one hb hr hg hn hf H1
  go_wp2_with fail
  refine (step_open hD hJ H2.out.1 H2.out.2.1.size (by rw [H2.out.2.2.1, aw_len.1]; omega) 2 ⟨by omega, by omega⟩).mono ?_
  rintro e w3 ⟨n, r, hr, hb, he⟩
  obtain ⟨rfl, rfl⟩ := open_some hr (by rw [H2.out.2.2.1, aw_len.1]; decide) (by rw [H2.out.2.2.2.1]; exact aw1_pick)
  obtain ⟨pj, G, va, vl, rfl, hbo, hG, ht, hl⟩ := he
  rw [H2.out.2.2.2.1, show (2 : Int).toNat = 2 from rfl, aw1_list] at hbo hl
  replace hbo : Both D J W.heap.size w3 F2 G p pj s2 (awJ 0 1 0 4 false) := hbo
  have hA : Aw D J W w3 F2 G p pj s2 (awJ 0 1 0 4 false) va aw1 aw1 := ⟨hbo, below_keep H2.out.2.1 hb, ht, H2.out.2.2.1, H2.out.2.2.2.1, H2.out.2.2.2.2⟩
  obtain ⟨al, cl, ss, rfl, _, _, _, _, _, hss, _⟩ := hl
  obtain rfl : ss = [] := by simpa using hss
  have HA := Lib.hid hA
  clear hA hbo hG ht hss hb hr H2
  have kc := Lib.run_convert_bytes_const (P := Try.prog) w3 27 5 #[.int .u8 120] 1 1 Try.underlying27 Try.underlying5
  go_wp2_with fail
  clear kc
  refine (append_const hD hJ HA.out.both HA.out.below.size (by rw [HA.out.good, aw_len.1]; omega) (awJ_ok _ _ _ _ _ (by omega) (by omega) (by omega) (by omega) (by omega) (by rw [HA.out.good, aw_len.1])) [120] 1 _ _ rfl rfl (by omega)).mono ?_
  rintro e w4 ⟨n, j', s', F4, rfl, hr, hst⟩
  obtain ⟨rfl, rfl, rfl⟩ := ap_closed hr rfl rfl
  have HA4 := Lib.hid (aw_step HA.out hst HA.out.good HA.out.now HA.out.fuse)
  clear hr hst HA
  have kc := Lib.run_convert_bytes_const (P := Try.prog) w4 27 5 #[.int .u8 115, .int .u8 101, .int .u8 99, .int .u8 111, .int .u8 110, .int .u8 100] 6 6 Try.underlying27 Try.underlying5
  go_wp2_with fail
  clear kc
  refine (checkpoint_const hD hJ HA4.out.both HA4.out.below.size (by rw [HA4.out.good, aw_len.1]; omega) (awJ_ok _ _ _ _ _ (by omega) (by omega) (by omega) (by omega) (by omega) (by rw [HA4.out.good, aw_len.1])) (fun _ => ⟨1, 0, firstB, by rw [HA4.out.now]; exact aw1_pick⟩) secondB 6 _ _ rfl rfl (by omega)).mono ?_
  rintro e w5 ⟨n, j', s5, F5, rfl, hr, hst⟩
  obtain ⟨rfl, rfl, hg, hn, hf⟩ := ck_free hr HA4.out.fuse rfl (by decide) (by rw [HA4.out.now, aw1_last]; omega) (by decide)
  rw [HA4.out.now, aw1_last] at hg hn hst
  have HA5 : Hid (Aw D J W w5 F5 G p pj s5 (awJ 1 2 0 4 true) va aw2 aw2) := Lib.hid (aw_step HA4.out hst hg hn hf)
  clear hr hst hg hn hf HA4
  have kc := Lib.run_convert_bytes_const (P := Try.prog) w5 27 5 #[.int .u8 97] 1 1 Try.underlying27 Try.underlying5
  go_wp2_with fail
  clear kc
  refine (append_const hD hJ HA5.out.both HA5.out.below.size (by rw [HA5.out.good, aw_len.2.1]; omega) (awJ_ok _ _ _ _ _ (by omega) (by omega) (by omega) (by omega) (by omega) (by rw [HA5.out.good, aw_len.2.1])) [97] 1 _ _ rfl rfl (by omega)).mono ?_
  rintro e w6 ⟨n, j', s6, F6, rfl, hr, hst⟩
  obtain ⟨rfl, rfl, hg, hn, hf⟩ := ap_free hr HA5.out.fuse rfl rfl (by decide) (by decide) (by rw [HA5.out.good, aw_len.2.1]; decide)
  rw [HA5.out.now] at hn
  have HA6 : Hid (Aw D J W w6 F6 G p pj s6 (awJ 1 2 1 5 true) va aw2 aw3) := Lib.hid (aw_step HA5.out hst (hg.trans HA5.out.good) hn hf)
  clear hr hst hg hn hf HA5
  have kc := Lib.run_convert_bytes_const (P := Try.prog) w6 27 5 #[.int .u8 98] 1 1 Try.underlying27 Try.underlying5
  go_wp2_with fail
  clear kc
  refine (append_const hD hJ HA6.out.both HA6.out.below.size (by rw [HA6.out.good, aw_len.2.1]; omega) (awJ_ok _ _ _ _ _ (by omega) (by omega) (by omega) (by omega) (by omega) (by rw [HA6.out.good, aw_len.2.1])) [98] 1 _ _ rfl rfl (by omega)).mono ?_
  rintro e w7 ⟨n, j', s7, F7, rfl, hr, hst⟩
  obtain ⟨rfl, rfl, hg, hn, hf⟩ := ap_free hr HA6.out.fuse rfl rfl (by decide) (by decide) (by rw [HA6.out.good, aw_len.2.1]; decide)
  rw [HA6.out.now] at hn
  have HA7 : Hid (Aw D J W w7 F7 G p pj s7 (awJ 1 2 2 6 true) va aw2 aw4) := Lib.hid (aw_step HA6.out hst (hg.trans HA6.out.good) hn hf)
  clear hr hst hg hn hf HA6
  go_wp2_with fail
  refine (step_commit hJ HA7.out.both HA7.out.below.size (by rw [HA7.out.good, aw_len.2.1]; omega) (awJ_ok _ _ _ _ _ (by omega) (by omega) (by omega) (by omega) (by omega) (by rw [HA7.out.good, aw_len.2.1]))).mono ?_
  rintro e w8 ⟨n, j', s8, F8, rfl, hr, hst⟩
  obtain ⟨rfl, rfl, hg, hn, hf⟩ := co_free hr HA7.out.fuse rfl rfl
  rw [HA7.out.now] at hg hn
  have HA8 : Hid (Aw D J W w8 F8 G p pj s8 (awJ 1 2 2 6 true) va aw4 aw4) := Lib.hid (aw_step HA7.out hst hg hn hf)
  clear hr hst hg hn hf HA7
  have kc := Lib.run_convert_bytes_const (P := Try.prog) w8 27 5 #[.int .u8 99] 1 1 Try.underlying27 Try.underlying5
  go_wp2_with fail
  clear kc
  refine (append_const hD hJ HA8.out.both HA8.out.below.size (by rw [HA8.out.good, aw_len.2.2]; omega) (awJ_ok _ _ _ _ _ (by omega) (by omega) (by omega) (by omega) (by omega) (by rw [HA8.out.good, aw_len.2.2])) [99] 1 _ _ rfl rfl (by omega)).mono ?_
  rintro e w9 ⟨n, j', s9, F9, rfl, hr, hst⟩
  obtain ⟨rfl, rfl, hg, hn, hf⟩ := ap_free hr HA8.out.fuse rfl rfl (by decide) (by decide) (by rw [HA8.out.good, aw_len.2.2]; decide)
  have HA9 : Hid (Aw D J W w9 F9 G p pj s9 (awJ 1 2 3 7 true) va aw4 s9.now) := Lib.hid (aw_step HA8.out hst (hg.trans HA8.out.good) rfl hf)
  clear hr hst hg hn hf HA8
  go_wp2_with fail
  refine (step_crash hD hJ HA9.out.both HA9.out.below.size 0 (-1) 0 ⟨by omega, by omega⟩ ⟨by omega, by omega⟩ ⟨by omega, by omega⟩).mono ?_
  rintro e w10 ⟨F10, rfl, hst⟩
  have hg : (s9.crash 0 (-1) 0).good = aw4 := (crash_none s9).trans HA9.out.good
  have hA := aw_step HA9.out hst hg (show (s9.crash 0 (-1) 0).now = aw4 from hg) rfl
  generalize s9.crash 0 (-1) 0 = s10 at *
  have HA10 := Lib.hid hA
  clear hst hg hA HA9
  go_wp2_with fail
  refine (step_open hD hJ ⟨HA10.out.both.d, HA10.out.both.flt⟩ HA10.out.below.size (by rw [HA10.out.good, aw_len.2.2]; omega) 2 ⟨by omega, by omega⟩).mono ?_
  rintro e w11 ⟨n, r, hr, hb, he⟩
  obtain ⟨rfl, rfl⟩ := open_some hr (by rw [HA10.out.good, aw_len.2.2]; decide) (by rw [HA10.out.now]; exact aw4_pick)
  obtain ⟨pk, G2, vb, vm, rfl, hbo, hG, ht, hl⟩ := he
  rw [HA10.out.now, show (2 : Int).toNat = 2 from rfl, aw4_list] at hbo hl
  replace hbo : Both D J W.heap.size w11 F10 G2 p pk s10 (awJ 1 2 2 6 false) := hbo
  have k1 := kcTxt (txt_keep hb HA10.out.txt)
  have k2 := kcTxt ht
  obtain ⟨a1, c1, rfl, hA1, _⟩ := HA10.out.txt
  obtain ⟨a2, c2, rfl, hA2, _⟩ := ht
  have HBo := Lib.hid (And.intro hbo (below_keep HA10.out.below hb))
  obtain ⟨am, cm, ss, rfl, hcm, _, hnm, hrm, hsm, hss, _⟩ := hl
  obtain ⟨x0, x1, rfl, hx0, hx1⟩ := two_of_map hss
  obtain ⟨b, o, rfl⟩ : ∃ b o, am = some ⟨b, o, none⟩ := by
    rcases hrm with h | ⟨b, o, e, _⟩
    · cases h
    · exact ⟨b, o, e⟩
  have hc := row_cell hrm (show 1 < 2 by omega) rfl (i := 0) (by omega)
  have k3 : (convert 27 9 x1.val).run Try.prog w11 = .ok (.string ⟨#[98]⟩) w11 := by
    have h := hsm x1 (by simp)
    have := conv_row (P := Try.prog) (src := 27) (dst := 9) (cap := x1.c) Try.underlying27 Try.underlying5 Try.underlying9 h.len (fun e => (h.nil e).1) h.row
    rw [hx1] at this
    exact this
  have hc1 : w11.cell? ⟨b, o + 1, none⟩ = some x1.val := hc
  obtain ⟨a3, n3, c3, l3⟩ := x1
  simp only [Sv.val] at k3 hc1
  clear hc hrm hsm hss hnm hA1 hA2 hbo hG hr hb HA10
  replace k1 : (convert 27 9 (.slice a1 5 c1)).run Try.prog w11 = .ok (.string ⟨#[102, 105, 114, 115, 116]⟩) w11 := k1
  replace k2 : (convert 27 9 (.slice a2 6 c2)).run Try.prog w11 = .ok (.string ⟨#[115, 101, 99, 111, 110, 100]⟩) w11 := k2
  rw [show firstB.length = 5 from rfl, show secondB.length = 6 from rfl, show [x0, (⟨a3, n3, c3, l3⟩ : Sv)].length = 2 from rfl]
  clear hx1
  go_wp2_with fail
  refine (hJ.seq HBo.out.1.j).mono ?_
  rintro e w12 ⟨rfl, hb⟩
  have HBo2 := Lib.hid (And.intro (both_keep hD hJ HBo.out.1 hb) (below_keep HBo.out.2 hb))
  clear hb HBo k1 k2 k3 hc1
  go_wp2_with fail
  refine (hJ.epoch HBo2.out.1.j).mono ?_
  rintro e w13 ⟨rfl, hb⟩
  have HB13 := Lib.hid (below_keep HBo2.out.2 hb)
  clear hb
  go_wp2
  go_ret
  exact ⟨rfl, HB13.out⟩
end Go.Proofs.Ytdgfoldobofgoaa.Jrn
/- Journal: JournalNone, over any journal that does as it should. -/
namespace Go.Proofs.Ytdgfoldobofgoaa.Jrn
open Go.RowKit
open Go.Sort
open Kit
open Oct
open Chk
open Frm
open Foot
open Dsk (Sec DS mix mix_at mix_length mix_whole mix_none)
set_option linter.unusedVariables false
variable {D : World → (Nat → Prop) → Nat → DS → Prop} {J : World → (Nat → Prop) → Nat → Nat → JS → Prop}

theorem getD_zeros (m i : Nat) : (List.replicate m (0 : UInt8)).getD i 0 = 0 := by
  simp [List.getD, List.getElem?_replicate]
  split <;> rfl
theorem zeros_any (m : Nat) : unpackB (List.replicate m 0) = none := by
  unfold unpackB
  split
  · rfl
  · split
    · rfl
    · rename_i h1 h2
      rw [List.length_replicate] at h1
      have e2 : two (List.replicate m 0) = 0 := by unfold two; rw [getD_zeros, getD_zeros]; rfl
      have e3 : ∀ o, numK (List.replicate m 0) o 4 = 0 := fun o => by
        have : numK (List.replicate m 0) o 4 = numK (List.replicate 64 0) 0 4 := by
          simp only [numK, getD_zeros]
        rw [this]; decide
      rw [if_neg]
      rw [e2, e3, e3, List.take_replicate]
      have : min (32 * secs 0) m = 32 := by rw [show secs 0 = 1 from rfl]; omega
      rw [this]
      have e4 : bodyB (List.replicate m 0) 0 = [] := by unfold bodyB; simp
      rw [e4]
      decide +kernel
theorem pick_zeros (m slot : Nat) : pick (List.replicate m (List.replicate 32 0)) slot = none := by
  have h : ∀ i, unpackB (placeB (List.replicate m (List.replicate 32 0)) slot i) = none := fun i => by
    unfold placeB
    rw [List.drop_replicate, List.take_replicate, List.flatten_replicate_replicate]
    exact zeros_any _
  unfold pick
  rw [h, h]
theorem open_zeros {N : Int} {slot : Int} {n : Nat} {r : Option (JS × Bs × List Bs)} (h : OpenR (DS.new N) slot n r) : r = none ∧ n = if partOk (DS.new N).good.length slot then 15 else 1 := by
  cases h with
  | arg h => exact ⟨rfl, by rw [if_neg h]⟩
  | lost h h1 => exact ⟨rfl, by rw [if_pos h]⟩
  | done p E Q b h h1 =>
    rw [show (DS.new N).now = List.replicate (if N < 1024 then N.toNat else 1024) (List.replicate 32 0) from rfl, pick_zeros] at h1
    cases h1

set_option maxRecDepth 100000 in
set_option maxHeartbeats 8000000 in
theorem none_any (hD : Dsk.Prog D) (hQ : JProg D J) (S slot : Int) (hS : inI S) (hsl : inI slot) (aa : Option Addr) (len cap : Nat) (b : Bs) (W : World) (ha : Arg W aa len cap b) :
    Calls Try.prog 6 #[.int .i64 S, .int .i64 slot, .slice aa len cap] W fun e w' => e = .returned (.bool true) ∧ Below W.heap.size W w' := by
  have HA := Lib.hid ha
  obtain ⟨h1, h2⟩ := hS
  obtain ⟨h3, h4⟩ := hsl
  clear ha
  go_enter Try.func6, Try.ntmps6
  go_wp2_with fail
  refine (hQ.appendNil aa len cap b W HA.out).mono ?_
  rintro e w1 ⟨rfl, hb⟩
  have HB1 := Lib.hid hb
  clear hb
  go_wp2_with fail
  refine (hQ.commitNil w1).mono ?_
  rintro e w2 ⟨rfl, hb⟩
  have HB2 := Lib.hid (below_keep HB1.out hb)
  clear hb
  go_wp2_with fail
  refine (hQ.checkpointNil aa len cap b w2 (arg_keep HA.out HB2.out)).mono ?_
  rintro e w3 ⟨rfl, hb⟩
  have HB3 := Lib.hid (below_keep HB2.out hb)
  clear hb
  go_wp2_with fail
  refine (hQ.seqNil w3).mono ?_
  rintro e w4 ⟨rfl, hb⟩
  have HB4 := Lib.hid (below_keep HB3.out hb)
  clear hb
  go_wp2_with fail
  refine (hQ.epochNil w4).mono ?_
  rintro e w5 ⟨rfl, hb⟩
  have HB5 := Lib.hid (below_keep HB4.out hb)
  clear hb
  go_wp2_with fail
  refine (hQ.roomNil w5).mono ?_
  rintro e w6 ⟨rfl, hb⟩
  have HB6 := Lib.hid (below_keep HB5.out hb)
  clear hb
  clear HB1 HB2 HB3 HB4 HB5
  go_upto_if 48 with fail
  go_cut [8] (fun n wx => ∃ N : Int, n = .int .i64 N ∧ inI N ∧ N ≤ 100 ∧ wx = w6)
  case first =>
    by_cases hN : 100 < S
    all_goals
      go_wp2_with fail
      go_meet
      case rel => exact ⟨_, rfl, ⟨by omega, by omega⟩, by omega, rfl⟩
  case rest =>
  obtain ⟨N, rfl, hN, hN1, rfl⟩ := hcut
  go_wp2_with fail
  refine (hD.new N _ hN.1 hN.2).mono ?_
  rintro e w7 ⟨p, rfl, hd, hb⟩
  have one : Dsk.OneF D W.heap.size w7 (More (fun _ => False) wc w7) p (DS.new N) := ⟨hd, fun k hk => hk.elim (fun h => h.elim) fun h => ⟨Nat.le_trans HB6.out.size h.1, h.2⟩⟩
  generalize More (fun _ => False) wc w7 = F at one
  have hl : (DS.new N).good.length ≤ 100 := by show (List.replicate _ _).length ≤ 100; rw [List.length_replicate]; split <;> omega
  have H7 := Lib.hid (And.intro one (And.intro (below_keep HB6.out hb) hl))
  have hop := fun n r => @open_zeros N slot n r
  generalize DS.new N = s at *
  have HOp := Lib.hid hop
  clear one hd hb hop
  obtain ⟨M, hM⟩ : ∃ M : Int, M = s.good.length := ⟨_, rfl⟩
  have hM1 : 0 ≤ M ∧ M ≤ 100 := by omega
  have HM := Lib.hid hM
  clear hM hl HB6 hN hN1
  go_upto_region 8 with fail
  go_cut [10] (fun v wx => v = .bool (decide (partOk s.good.length slot)) ∧ Below w7.heap.size w7 wx)
  case first =>
    have hpart : decide (partOk s.good.length slot) = decide (1 ≤ slot ∧ 2 * slot < M) := by unfold partOk; rw [HM.out]
    have HP := Lib.hid hpart
    clear hpart
    by_cases ha : 1 ≤ slot
    · by_cases hb : slot < 1000
      · go_wp2_with fail
        refine (hD.size H7.out.1.d).mono ?_
        rw [← HM.out]
        rintro e w8 ⟨rfl, hb8⟩
        have HB8 := Lib.hid hb8
        clear hb8
        go_wp2_with fail
        go_meet
        case rel => exact ⟨by rw [HP.out]; congr 1; first | rfl | simp [ha], HB8.out⟩
      · go_wp2_with fail
        go_meet
        case rel => exact ⟨by rw [HP.out, decide_eq_false (by omega)], Below.refl _ _⟩
    · go_wp2_with fail
      go_meet
      case rel => exact ⟨by rw [HP.out, decide_eq_false (by omega)], Below.refl _ _⟩
  case rest =>
  obtain ⟨rfl, hb⟩ := hcut
  have H8 := Lib.hid (And.intro (Dsk.one_keep hD H7.out.1 hb) (below_keep H7.out.2.1 hb))
  clear hb
  go_wp2_with fail
  refine (step_open hD hQ H8.out.1 H8.out.2.size H7.out.2.2 slot ⟨h3, h4⟩).mono ?_
  rintro e w9 ⟨n, r, hr, hb, he⟩
  obtain ⟨rfl, rfl⟩ := HOp.out n r hr
  obtain ⟨va, vl, rfl, hv, hli⟩ := he
  obtain ⟨av, cv, rfl, _⟩ := arg_new hv
  obtain ⟨al, cl, ss, rfl, _, _, _, _, _, hss⟩ := hli
  obtain rfl : ss = [] := by simpa using hss
  have H9 := Lib.hid (And.intro (Dsk.one_keep hD H8.out.1 hb) (below_keep H8.out.2 hb))
  simp only [List.length_nil]
  by_cases hp : partOk s.good.length slot
  · rw [if_pos hp, decide_eq_true hp]
    clear hb hr hv hss HOp H8 H7
    go_wp2_with fail
    refine (awake_any hD hQ w9).mono ?_
    rintro e w10 ⟨rfl, hb⟩
    have H10 := Lib.hid (below_keep H9.out.2 hb)
    clear hb
    go_wp2_with fail
    refine (hQ.formatNil slot aa len cap b w10 ⟨h3, h4⟩ (arg_keep HA.out H10.out)).mono ?_
    rintro e w11 ⟨rfl, hb⟩
    have H11 := Lib.hid (below_keep H10.out hb)
    clear hb
    go_wp2
    go_ret
    exact ⟨rfl, H11.out⟩
  · rw [if_neg hp, decide_eq_false hp]
    have HP := Lib.hid hp
    clear hb hr hv hss HOp H8 H7 hp
    go_wp2_with fail
    refine (awake_any hD hQ w9).mono ?_
    rintro e w10 ⟨rfl, hb⟩
    have H10 := Lib.hid (And.intro (Dsk.one_keep hD H9.out.1 hb) (below_keep H9.out.2 hb))
    clear hb
    go_wp2_with fail
    refine (hQ.formatNil slot aa len cap b w10 ⟨h3, h4⟩ (arg_keep HA.out H10.out.2)).mono ?_
    rintro e w11 ⟨rfl, hb⟩
    have H11 := Lib.hid (And.intro (Dsk.one_keep hD H10.out.1 hb) (below_keep H10.out.2 hb))
    clear hb
    go_wp2_with fail
    refine (hQ.formatArg H11.out.1.d slot aa len cap b ⟨h3, h4⟩ (arg_keep HA.out H11.out.2) HP.out).mono ?_
    rintro e w12 ⟨rfl, hb⟩
    have H12 := Lib.hid (below_keep H11.out.2 hb)
    clear hb
    go_wp2
    go_ret
    exact ⟨rfl, H12.out⟩
end Go.Proofs.Ytdgfoldobofgoaa.Jrn
/- Journal: the landed journal, as it lies in memory; its small calls; a disk's sectors read. -/
namespace Go.Proofs.Ytdgfoldobofgoaa.Jrn
set_option maxRecDepth 100000
open Go.RowKit
open Go.Sort
open Kit
open Oct
open Chk
open Frm
open Foot
open Dsk (Sec DS mix mix_at mix_length mix_whole mix_none RdB)
set_option linter.unusedVariables false
variable {D : World → (Nat → Prop) → Nat → DS → Prop}
variable {w w' : World} {F G : Nat → Prop} {p pj : Nat} {s : DS} {j : JS}

/-! ### In memory -/

def encJ (p : Nat) (j : JS) : List Value := [.pointer (some ⟨p, 0, none⟩), .int .i64 (j.slot : Nat), .int .i64 (j.epoch : Nat), .int .i64 (j.seq : Nat), .int .i64 (j.next : Nat), .bool j.opened, .bool j.down]
def Jr (w : World) (G : Nat → Prop) (pj p : Nat) (j : JS) : Prop := Arr.Blk w pj 61 (encJ p j) ∧ G pj
theorem jr_chg (h : Jr w F pj p j) (hC : Chg G w w') (ha : ∀ k, F k → ¬ G k) : Jr w' F pj p j := ⟨blk_chg hC h.1 (ha _ h.2), h.2⟩
theorem jr_keep (h : Jr w F pj p j) (hb : Below w.heap.size w w') : Jr w' F pj p j := jr_chg h (new_chg hb (fun _ => False)) (fun _ _ => id)
structure JC (w : World) (pj p : Nat) (j : JS) : Prop where
  c0 : w.cell? ⟨pj, 0, none⟩ = some (.pointer (some ⟨p, 0, none⟩))
  c1 : w.cell? ⟨pj, 1, none⟩ = some (.int .i64 (j.slot : Nat))
  c2 : w.cell? ⟨pj, 2, none⟩ = some (.int .i64 (j.epoch : Nat))
  c3 : w.cell? ⟨pj, 3, none⟩ = some (.int .i64 (j.seq : Nat))
  c4 : w.cell? ⟨pj, 4, none⟩ = some (.int .i64 (j.next : Nat))
  c5 : w.cell? ⟨pj, 5, none⟩ = some (.bool j.opened)
  c6 : w.cell? ⟨pj, 6, none⟩ = some (.bool j.down)
theorem jr_cells (h : Jr w G pj p j) : JC w pj p j := by
  have c := fun i => Arr.blk_cell h.1 i
  exact ⟨c 0, c 1, c 2, c 3, c 4, c 5, c 6⟩
theorem d_keep (hD : Dsk.Prog D) (h : D w F p s) (hb : Below w.heap.size w w') : D w' F p s := hD.chg h (new_chg hb (fun _ => False)) (fun _ _ => id)

/-! ### Small calls -/

theorem jseq_any (h : Jr w G pj p j) : Calls Try.prog 19 #[.pointer (some ⟨pj, 0, none⟩)] w fun e w' => e = .returned (.int .i64 (j.seq : Nat)) ∧ Below w.heap.size w w' := by
  have c := (jr_cells h).c3
  clear h
  go_enter Try.func19, Try.ntmps19
  go_wp2
  go_ret
  exact ⟨rfl, Below.refl _ _⟩
theorem jepoch_any (h : Jr w G pj p j) : Calls Try.prog 20 #[.pointer (some ⟨pj, 0, none⟩)] w fun e w' => e = .returned (.int .i64 (j.epoch : Nat)) ∧ Below w.heap.size w w' := by
  have c := (jr_cells h).c2
  clear h
  go_enter Try.func20, Try.ntmps20
  go_wp2
  go_ret
  exact ⟨rfl, Below.refl _ _⟩
theorem jseq_nil (w : World) : Calls Try.prog 19 #[.pointer none] w fun e w' => e = .returned (.int .i64 0) ∧ Below w.heap.size w w' := by
  go_enter Try.func19, Try.ntmps19
  go_wp2
  go_ret
  exact ⟨rfl, Below.refl _ _⟩
theorem jepoch_nil (w : World) : Calls Try.prog 20 #[.pointer none] w fun e w' => e = .returned (.int .i64 0) ∧ Below w.heap.size w w' := by
  go_enter Try.func20, Try.ntmps20
  go_wp2
  go_ret
  exact ⟨rfl, Below.refl _ _⟩
theorem jroom_nil (w : World) : Calls Try.prog 21 #[.pointer none] w fun e w' => e = .returned (.int .i64 0) ∧ Below w.heap.size w w' := by
  go_enter Try.func21, Try.ntmps21
  go_wp2
  go_ret
  exact ⟨rfl, Below.refl _ _⟩
/-- May records be appended, and committed? -/
def readyN (j : JS) : Nat := if j.down then 10 else if j.opened then 0 else 9
theorem jready_any (h : Jr w G pj p j) : Calls Try.prog 30 #[.pointer (some ⟨pj, 0, none⟩)] w fun e w' => e = .returned (.int .i64 (readyN j : Nat)) ∧ w = w' := by
  have c5 := (jr_cells h).c5
  have c6 := (jr_cells h).c6
  unfold readyN
  clear h
  generalize j.down = d at *
  generalize j.opened = o at *
  cases d <;> cases o
  all_goals
    go_enter Try.func30, Try.ntmps30
    go_wp2
    go_ret
    exact ⟨rfl, rfl⟩
theorem jready_nil (w : World) : Calls Try.prog 30 #[.pointer none] w fun e w' => e = .returned (.int .i64 1) ∧ w = w' := by
  go_enter Try.func30, Try.ntmps30
  go_wp2
  go_ret
  exact ⟨rfl, rfl⟩

/-! ### Has a disk two places, and at least one sector more? -/

theorem places_any (hD : Dsk.Prog D) (h : D w F p s) (slot : Int) (hs : inI slot) : Calls Try.prog 23 #[.pointer (some ⟨p, 0, none⟩), .int .i64 slot] w fun e w' => e = .returned (.bool (decide (partOk s.good.length slot))) ∧ Below w.heap.size w w' := by
  have hsm := (hD.ok h).small
  have HD := Lib.hid h
  clear h
  obtain ⟨n, hn⟩ : ∃ n, n = s.good.length := ⟨_, rfl⟩
  have HN := Lib.hid hn
  rw [← hn] at hsm ⊢
  clear hn
  by_cases h1 : 1 ≤ slot
  · by_cases h2 : slot ≤ n
    · have hm1 : -9223372036854775808 ≤ 2 * slot := by omega
      have hm2 : 2 * slot ≤ 9223372036854775807 := by omega
      by_cases h3 : 2 * slot < n
      all_goals
        first
          | have hd : Hid (decide (partOk n slot) = true) := Lib.hid (decide_eq_true ⟨h1, h3⟩)
          | have hd : Hid (decide (partOk n slot) = false) := Lib.hid (decide_eq_false fun h => h3 h.2)
        go_enter Try.func23, Try.ntmps23
        go_wp2_with fail
        refine (hD.size HD.out).mono ?_
        rintro e w1 ⟨rfl, hb⟩
        rw [← HN.out]
        have HB := Lib.hid hb
        clear hb
        go_wp2_with fail
        refine (hD.size (d_keep hD HD.out HB.out)).mono ?_
        rintro e w2 ⟨rfl, hb⟩
        rw [← HN.out]
        have HB2 := Lib.hid (below_keep HB.out hb)
        clear hb
        go_wp2_with fail
        go_ret
        exact ⟨by rw [hd.out]; first | rfl | (refine ret_bool ?_; first | exact decide_eq_true (by omega) | exact decide_eq_false (by omega)), HB2.out⟩
    · have hd : Hid (decide (partOk n slot) = false) := Lib.hid (decide_eq_false fun h => h2 (by have := h.2; omega))
      go_enter Try.func23, Try.ntmps23
      go_wp2_with fail
      refine (hD.size HD.out).mono ?_
      rintro e w1 ⟨rfl, hb⟩
      rw [← HN.out]
      have HB := Lib.hid hb
      clear hb
      go_wp2_with fail
      go_ret
      exact ⟨by rw [hd.out]; first | rfl | exact ret_bool (decide_eq_false (by omega)), HB.out⟩
  · have hd : Hid (decide (partOk n slot) = false) := Lib.hid (decide_eq_false fun h => h1 h.1)
    go_enter Try.func23, Try.ntmps23
    go_wp2_with fail
    go_ret
    exact ⟨by rw [hd.out]; first | rfl | exact ret_bool (decide_eq_false (by omega)), Below.refl _ _⟩

/-! ### Sectors read -/

def part (c : List Sec) (a b : Nat) : List Sec := (c.drop a).take (b - a)
theorem part_nil (c : List Sec) (a : Nat) : part c a a = [] := by simp [part]
theorem part_snoc {c : List Sec} {a b : Nat} (hab : a ≤ b) (hb : b < c.length) : part c a (b + 1) = part c a b ++ [c.getD b []] := by
  have e : b + 1 - a = (b - a) + 1 := by omega
  have hl : b - a < (c.drop a).length := by rw [List.length_drop]; omega
  unfold part
  rw [e, List.take_succ_eq_append_getElem hl, List.getElem_drop, Dsk.getD_at hb]
  congr 2
  have : a + (b - a) = b := by omega
  simp [this]
theorem part_length {c : List Sec} {a b : Nat} (hab : a ≤ b) (hb : b ≤ c.length) : (part c a b).length = b - a := by unfold part; rw [List.length_take, List.length_drop]; omega
theorem part_32 {c : List Sec} (h : ∀ x ∈ c, x.length = 32) (a b : Nat) : ∀ x ∈ part c a b, x.length = 32 := fun x hx => h x (List.mem_of_mem_drop (List.mem_of_mem_take hx))
theorem read_is {s : DS} {k : Nat} (h : k < s.good.length) : s.read (k : Nat) = (s.now.getD k [], 0) := by unfold DS.read; rw [if_pos ⟨by omega, by omega⟩, Int.toNat_natCast]

set_option maxHeartbeats 4000000 in
theorem jread_any (hD : Dsk.Prog D) (h : D w F p s) (a b : Nat) (hab : a ≤ b) (hb : b ≤ s.good.length) : Calls Try.prog 27 #[.pointer (some ⟨p, 0, none⟩), .int .i64 (a : Nat), .int .i64 (b : Nat)] w fun e w' => ∃ v, e = .returned v ∧ NewB w' w.heap.size v (part s.now a b).flatten ∧ Below w.heap.size w w' := by
  have hok := hD.ok h
  have hsm := hok.small
  have hnl := hok.len
  have hb10 : b ≤ 1024 := by omega
  have HD := Lib.hid (And.intro h hok)
  clear h hok
  go_enter Try.func27, Try.ntmps27
  go_wp2_with fail
  go_loopw [7, 8] (fun v i wr => ∃ k : Nat, a ≤ k ∧ k ≤ b ∧ i = .int .i64 (k : Nat) ∧ OwnB wr w.heap.size v (part s.now a k).flatten ∧ Below w.heap.size w wr) (fun _ i _ => b - (intOf i).toNat)
  case atStart => exact ⟨a, Nat.le_refl _, hab, rfl, by rw [part_nil]; exact owns_nil _ _ _, Below.refl _ _⟩
  case round =>
    obtain ⟨k, hak, hkb, rfl, hown, hbel⟩ := hrel
    by_cases hlt : k < b
    · have HO := Lib.hid (And.intro hown hbel)
      clear hown hbel
      go_wp2_with fail
      refine (hD.read (d_keep hD HD.out.1 HO.out.2) (k : Nat) ⟨by omega, by omega⟩).mono ?_
      rintro e w1 ⟨v1, rfl, hr, hb1⟩
      rw [read_is (by omega)] at hr ⊢
      obtain ⟨ad, cd, rfl, d1, d2, d3, d4⟩ := Dsk.rd_row hr
      have hl1 : (s.now.getD k []).length = 32 := HD.out.2.now32 _ (Dsk.getD_mem (by omega))
      have hpl : (part s.now a k).flatten.length = 32 * (k - a) := by rw [flat_length32 _ (part_32 HD.out.2.now32 a k), part_length hak (by omega)]
      have hps : (part s.now a (k + 1)).flatten = (part s.now a k).flatten ++ s.now.getD k [] := by rw [part_snoc hak (by omega), List.flatten_append]; simp
      have hown1 := own_keep HO.out.1 hb1
      have hB1 := below_keep HO.out.2 hb1
      rw [hl1]
      simp only [hl1] at d1
      obtain ⟨a0, c0, rfl, g1, g2, g3, g4⟩ := own_row hown1
      rw [hpl] at hown1 ⊢
      obtain ⟨L, hL⟩ : ∃ L, L = (part s.now a k).flatten := ⟨_, rfl⟩
      obtain ⟨M, hM⟩ : ∃ M, M = s.now.getD k [] := ⟨_, rfl⟩
      obtain ⟨n, hn⟩ : ∃ n, n = 32 * (k - a) := ⟨_, rfl⟩
      rw [← hL] at hps hpl hown1
      rw [← hM] at hps d4 hl1
      rw [← hn] at hpl hown1 ⊢
      have hn9 : n ≤ 40000 := by omega
      have HA := Lib.hid (And.intro hown1 (And.intro hB1 (And.intro hps (And.intro d4 (And.intro (show ad = none → 32 = 0 ∧ cd = 0 from fun e => by have := d3 e; omega) (And.intro (show L.length + 32 ≤ maxLen by unfold maxLen; omega) (And.intro (show (L.length + 32) * 1 ≤ 140737488355328 by omega) (And.intro hB1.size hl1))))))))
      clear hr d2 d3 d4 hpl hps hown1 hB1 g1 g2 g3 g4 hL hM hn HO hl1
      go_wp2_with (first | (at_builtin; refine Two.append_apart encB_len Nat.zero_lt_one encB_one rfl (.tmp 23) (.tmp 24) 27 5 rfl Try.underlying27 (.int .u8 0) 1 info8 rfl w.heap.size (.slice a0 n c0) L rfl HA.out.1 ad 32 cd M rfl HA.out.2.2.2.2.2.2.2.2 HA.out.2.2.2.1 HA.out.2.2.2.2.1 HA.out.2.2.2.2.2.1 HA.out.2.2.2.2.2.2.1 HA.out.2.2.2.2.2.2.2.1 ?_; intro v9 w9 ho9 hg9 _; have HP := Lib.hid (show OwnB w9 w.heap.size v9 (part s.now a (k + 1)).flatten ∧ Below w.heap.size w w9 from ⟨by rw [HA.out.2.2.1]; exact ho9, HA.out.2.1.trans (Two.below_grown HA.out.1 hg9 HA.out.2.1.size)⟩); clear ho9 hg9 HA) | fail)
      go_roundw
      case rel => exact ⟨k + 1, by omega, by omega, by go_num, HP.out.1, HP.out.2⟩
      case measure => simp [intOf]; omega
    · obtain rfl : k = b := by omega
      have HO := Lib.hid (And.intro hown hbel)
      clear hown hbel
      go_wp2_with fail
      go_ret
      exact ⟨_, rfl, new_own HO.out.1, HO.out.2⟩
end Go.Proofs.Ytdgfoldobofgoaa.Jrn
/- Journal: the landed write; the disk's last epoch. -/
namespace Go.Proofs.Ytdgfoldobofgoaa.Jrn
set_option maxRecDepth 100000
open Go.RowKit
open Go.Sort
open Kit
open Oct
open Chk
open Frm
open Foot
open Dsk (Sec DS mix mix_at mix_length mix_whole mix_none RdB)
set_option linter.unusedVariables false
variable {D : World → (Nat → Prop) → Nat → DS → Prop}
variable {w w' : World} {F G : Nat → Prop} {p pj : Nat} {s : DS} {j : JS}

theorem over_nil (n : List Sec) (a : Nat) : over n a [] = n := by unfold over; simp
theorem over_snoc {n cs : List Sec} {a k : Nat} (hk : k < cs.length) (h : a + cs.length ≤ n.length) : over n a (cs.take (k + 1)) = (over n a (cs.take k)).set (a + k) (cs.getD k []) := by
  have hl : ∀ m, m ≤ cs.length → (cs.take m).length = m := fun m hm => by rw [List.length_take]; omega
  apply List.ext_getElem?
  intro i
  rw [over_at (by rw [hl _ (by omega)]; omega), List.getElem?_set, over_length (by rw [hl _ (by omega)]; omega), over_at (by rw [hl _ (by omega)]; omega), hl _ (by omega), hl _ (by omega)]
  by_cases h1 : a + k = i
  · rw [if_pos h1, if_neg (by omega), if_pos (by omega), if_pos (by omega), List.getElem?_take_of_lt (by omega), Dsk.getD_at hk, List.getElem?_eq_getElem (by omega)]
    have : i - a = k := by omega
    simp [this]
  · rw [if_neg h1]
    by_cases h2 : i < a
    · rw [if_pos h2, if_pos h2]
    · rw [if_neg h2, if_neg h2]
      by_cases h3 : i < a + k
      · rw [if_pos (by omega), if_pos h3, List.getElem?_take_of_lt (by omega), List.getElem?_take_of_lt (by omega)]
      · rw [if_neg (by omega), if_neg h3]
theorem write_ok {s : DS} {i : Nat} {b : Sec} (hi : i < s.good.length) (hb : b.length = 32) : (s.fuse = 0 ∧ s.write (i : Nat) b = (10, s)) ∨ (s.fuse ≠ 0 ∧ (s.write (i : Nat) b).1 = 0 ∧ (s.write (i : Nat) b).2.good = s.good ∧ (s.write (i : Nat) b).2.now = s.now.set i b ∧ (s.write (i : Nat) b).2.fuse = Dsk.burnt s.fuse) := by
  have hr : ¬ ¬ (Dsk.inR (i : Nat) s.good.length ∧ b.length = 32) := fun h => h ⟨⟨by omega, by omega⟩, hb⟩
  by_cases hf : s.fuse = 0
  · left; refine ⟨hf, ?_⟩
    unfold DS.write
    rw [if_neg hr, if_pos hf]
  · right; refine ⟨hf, ?_⟩
    unfold DS.write
    rw [if_neg hr, if_neg hf]
    exact ⟨rfl, rfl, by rw [Int.toNat_natCast], rfl⟩
theorem put_none {s : DS} (ok : s.Ok) (a : Nat) : Put s s a [] := ⟨rfl, (over_nil _ _).symm, ok, id⟩
/-- One sector more, or none. -/
theorem put_more {s t : DS} {a k : Nat} {cs : List Sec} (hk : k < cs.length) (h : a + cs.length ≤ s.good.length) (h32 : ∀ c ∈ cs, c.length = 32) (hs : s.Ok) (hp : Put s t a (cs.take k)) (ok' : (t.write ((a + k : Nat) : Int) (cs.getD k [])).2.Ok) :
    ((t.write ((a + k : Nat) : Int) (cs.getD k [])).1 = 0 ∧ Put s (t.write ((a + k : Nat) : Int) (cs.getD k [])).2 a (cs.take (k + 1))) ∨ ((t.write ((a + k : Nat) : Int) (cs.getD k [])).1 = 10 ∧ Half s (t.write ((a + k : Nat) : Int) (cs.getD k [])).2 a cs) := by
  have hl := hs.len
  rcases write_ok (s := t) (i := a + k) (b := cs.getD k []) (by rw [hp.good]; omega) (h32 _ (Dsk.getD_mem hk)) with ⟨hf, he⟩ | ⟨hf, h1, h2, h3, h4⟩
  · right
    rw [he]
    have hsl : (cs.take k).length = k := by rw [List.length_take]; omega
    refine ⟨rfl, hp.good, by rw [hp.now, over_length (by omega)], fun i => ?_, hp.ok, fun e => by have := hp.fuse e; omega⟩
    rw [hp.now, over_at (by omega), over_at (by omega)]
    by_cases h2 : i < a
    · rw [if_pos h2]; exact .inl rfl
    · rw [if_neg h2, if_neg h2]
      by_cases h3 : i < a + k
      · right; rw [if_pos (by omega), if_pos (by omega), List.getElem?_take_of_lt (by omega)]
      · left; rw [if_neg (by omega)]
  · left
    refine ⟨h1, by rw [h2]; exact hp.good, by rw [h3, hp.now, ← over_snoc hk (by omega)], ok', fun e => ?_⟩
    rw [h4, hp.fuse e]; rfl
theorem flat_part {cs : List Sec} (h32 : ∀ c ∈ cs, c.length = 32) : ∀ {k : Nat}, k < cs.length → (cs.flatten.drop (32 * k)).take 32 = cs.getD k [] := by
  induction cs with
  | nil => intro k hk; cases hk
  | cons c cs ih =>
    intro k hk
    have hc := h32 c (by simp)
    cases k with
    | zero =>
      rw [Nat.mul_zero, List.drop_zero, List.flatten_cons, ← hc, List.take_left]; rfl
    | succ k =>
      rw [List.flatten_cons, show 32 * (k + 1) = c.length + 32 * k by omega, List.drop_append, List.drop_eq_nil_of_le (Nat.le_add_right _ _), List.nil_append, Nat.add_sub_cancel_left, ih (fun x hx => h32 x (by simp [hx])) (by simp only [List.length_cons] at hk; omega)]
      rfl
theorem run_mid (b o n c lo : Nat) (z1 z2 : Int) (h1 : z1 = (lo : Int)) (h2 : z2 = ((lo + 32 : Nat) : Int)) (hc : lo + 32 ≤ c) (w : World) : (Instr.sliceAt 27 (.slice (some ⟨b, o, none⟩) n c) (some (.int .i64 z1)) (some (.int .i64 z2)) none).run Try.prog w = .ok (.slice (some ⟨b, o + lo, none⟩) 32 (c - lo)) w := by
  subst h1 h2
  simp [go_sem]
  have e : ((lo : Int) + 32).toNat = lo + 32 := by omega
  rw [e, if_pos (by omega), if_pos (by omega), if_neg (by omega), Nat.add_sub_cancel_left]

set_option maxHeartbeats 4000000 in
theorem jwrite_any (hD : Dsk.Prog D) (h : D w F p s) (hF : ∀ k, F k → k < w.heap.size) (at' : Nat) (cs : List Sec) (h32 : ∀ c ∈ cs, c.length = 32) (hat : at' + cs.length ≤ s.good.length) (aa : Option Addr) (len cap : Nat) (hA : Arg w aa len cap cs.flatten) (hfar : ∀ q, aa = some q → ¬ F q.block ∧ q.block < w.heap.size) :
    Calls Try.prog 36 #[.pointer (some ⟨p, 0, none⟩), .int .i64 (at' : Nat), .slice aa len cap] w fun e w' => ∃ b s', e = .returned (.bool b) ∧ (b = true ∧ Put s s' at' cs ∨ b = false ∧ Half s s' at' cs) ∧ D w' (More F w w') p s' ∧ Chg F w w' := by
  have hok := hD.ok h
  have hsm := hok.small
  have hlen : len = 32 * cs.length := by rw [← hA.len, flat_length32 _ h32]
  have hcs : cs.length ≤ 1024 := by omega
  have hlq : (len : Int) / 32 = cs.length := by omega
  subst hlen
  have HL := Lib.hid hlq
  have HD := Lib.hid (And.intro h (And.intro hF (And.intro hok (And.intro hA (And.intro hfar h32)))))
  obtain ⟨m, hm⟩ : ∃ m, m = cs.length := ⟨_, rfl⟩
  rw [← hm] at hlq hcs hat ⊢
  have HM := Lib.hid hm
  have hlq' : (32 * (m : Int)) / 32 = m := by omega
  clear h hF hok hA hfar hm h32 HL hlq
  go_enter Try.func36, Try.ntmps36
  go_wp2_with fail
  go_loopw [11] (fun i wr => ∃ (k : Nat) (t : DS), k ≤ m ∧ i = .int .i64 (k : Nat) ∧ Put s t at' (cs.take k) ∧ D wr (More F w wr) p t ∧ Chg F w wr) (fun i _ => m - (intOf i).toNat)
  case atStart => exact ⟨0, s, Nat.zero_le _, rfl, put_none HD.out.2.2.1 _, hD.mono HD.out.1 (fun k hk => .inl hk), chg_refl _ _⟩
  case round =>
    obtain ⟨k, t, hk, rfl, hp, hd, hC⟩ := hrel
    by_cases hlt : k < m
    · have hkc : k < cs.length := by rw [← HM.out]; exact hlt
      obtain ⟨b, o, rfl⟩ := row_at HD.out.2.2.2.1.row (by rw [HD.out.2.2.2.1.len]; omega)
      have hnF : ¬ F b ∧ b < w.heap.size := HD.out.2.2.2.2.1 _ rfl
      have hrow : RowB wr (some ⟨b, o + 32 * k, none⟩) (cs.getD k []) := by
        have h1 := row_take (row_drop (row_chg encB_len hC HD.out.2.2.2.1.row hnF.1) (32 * k)) 32
        rw [flat_part HD.out.2.2.2.2.2 hkc, Nat.mul_one] at h1
        exact h1
      have hcap := HD.out.2.2.2.1.cap
      have hmx := HD.out.2.2.2.1.max
      have hnM : ¬ More F w wr b := fun hh => hh.elim hnF.1 fun h' => by have := hnF.2; omega
      have hcl : (cs.getD k []).length = 32 := HD.out.2.2.2.2.2 _ (Dsk.getD_mem hkc)
      have HR := Lib.hid (And.intro hp (And.intro hd (And.intro hC (And.intro hrow (And.intro hnM (And.intro hcl (And.intro hkc (show cap - 32 * k ≤ maxLen by omega))))))))
      have hrn := run_mid b o (32 * m) cap (32 * k) ((k : Int) * 32) (((k : Int) + 1) * 32) (by omega) (by omega) (by omega) wr
      have HCp := Lib.hid (show 32 ≤ cap - 32 * k by omega)
      clear hp hd hC hrow hnM hcl hkc hcap hmx hnF
      go_wp2_with fail
      clear hrn
      rw [show ((at' : Int) + (k : Int)) = ((at' + k : Nat) : Int) from rfl]
      refine (hD.write HR.out.2.1 (fun k hk => more_lt HD.out.2.1 HR.out.2.2.1.size hk) ((at' + k : Nat) : Int) (some ⟨b, o + 32 * k, none⟩) 32 (cap - 32 * k) (cs.getD k []) ⟨by omega, by omega⟩ HR.out.2.2.2.2.2.1 HCp.out HR.out.2.2.2.2.2.2.2 (fun h => by cases h) HR.out.2.2.2.1 (fun q hq => by injection hq with hq; subst hq; exact HR.out.2.2.2.2.1)).mono ?_
      rintro e w1 ⟨rfl, hd, hC⟩
      have hC1 := chg_more HR.out.2.2.1 hC
      have hd1 := hD.mono hd fun k hk => more_more HR.out.2.2.1.size hC.size hk
      rcases put_more HR.out.2.2.2.2.2.2.1 (by rw [← HM.out]; exact hat) HD.out.2.2.2.2.2 HD.out.2.2.1 HR.out.1 (hD.ok hd) with ⟨he, hp⟩ | ⟨he, hp⟩
      all_goals
        rw [he]
        have HX := Lib.hid (And.intro hp (And.intro hd1 hC1))
        clear hp hd1 hC1 hd hC he HR
        go_wp2_with fail
      · go_roundw
        case rel => exact ⟨k + 1, _, by omega, by go_num, HX.out.1, HX.out.2.1, HX.out.2.2⟩
        case measure => simp [intOf]; omega
      · go_ret
        exact ⟨false, _, rfl, .inr ⟨rfl, HX.out.1⟩, HX.out.2.1, HX.out.2.2⟩
    · obtain rfl : k = m := by omega
      rw [HM.out, List.take_length] at hp
      have HX := Lib.hid (And.intro hp (And.intro hd hC))
      clear hp hd hC
      go_wp2_with fail
      go_ret
      exact ⟨true, _, rfl, .inl ⟨rfl, HX.out.1⟩, HX.out.2.1, HX.out.2.2⟩
end Go.Proofs.Ytdgfoldobofgoaa.Jrn
/- Journal: the landed lastEpoch: the disk's last epoch. -/
namespace Go.Proofs.Ytdgfoldobofgoaa.Jrn
set_option maxRecDepth 100000
open Go.RowKit
open Go.Sort
open Kit
open Oct
open Chk
open Frm
open Foot
open Dsk (Sec DS mix mix_at mix_length mix_whole mix_none RdB)
set_option linter.unusedVariables false
variable {D : World → (Nat → Prop) → Nat → DS → Prop}
variable {w w' : World} {F G : Nat → Prop} {p pj : Nat} {s : DS} {j : JS}

theorem or_byte (e : Nat) (y : UInt8) (he : e < 16777216) : Go.bits .or .i64 ((e : Int) * 256) (y.toNat : Int) = ((e * 256 + y.toNat : Nat) : Int) := by
  have h2 := y.toNat_lt
  have h : (BitVec.ofInt 64 ((e : Int) * 256) ||| BitVec.ofInt 64 (y.toNat : Int)).toNat = e * 256 + y.toNat := by
    rw [BitVec.toNat_or, BitVec.toNat_ofInt, BitVec.toNat_ofInt, show ((e : Int) * 256 % ((2 ^ 64 : Nat) : Int)).toNat = e * 256 by omega, show ((y.toNat : Int) % ((2 ^ 64 : Nat) : Int)).toNat = y.toNat by omega]
    exact nat_join 8 _ _ (by omega) (by omega)
  show IntKind.i64.wrap ((BitVec.ofInt 64 ((e : Int) * 256) ||| BitVec.ofInt 64 (y.toNat : Int)).toNat : Int) = _
  rw [h, IntKind.wrap_i64]; omega
theorem last_snoc {c : List Sec} {k : Nat} (hk : k < c.length) : lastE (c.take (k + 1)) = max (lastE (c.take k)) (numK (c.getD k []) 24 4) := by
  unfold lastE
  rw [List.take_succ_eq_append_getElem hk, List.map_append, List.foldl_append, Dsk.getD_at hk]; rfl
theorem last_lt (c : List Sec) : lastE c < 4294967296 := by
  rcases last_is c with h | ⟨x, _, h⟩
  · omega
  · rw [← h]; exact numK_lt x 24 4
theorem part_one {c : List Sec} {k : Nat} (hk : k < c.length) : (part c k (k + 1)).flatten = c.getD k [] := by
  rw [part_snoc (Nat.le_refl _) hk, part_nil]; simp
theorem run_24 (b o n c : Nat) (hc : 32 ≤ c) (w : World) : (Instr.sliceAt 27 (.slice (some ⟨b, o, none⟩) n c) (some (.int .i64 24)) (some (.int .i64 28)) none).run Try.prog w = .ok (.slice (some ⟨b, o + 24, none⟩) 4 (c - 24)) w := by
  simp [go_sem]
  rw [if_pos (by omega), if_neg (by omega)]

set_option maxHeartbeats 4000000 in
theorem jlast_any (hD : Dsk.Prog D) (h : D w F p s) : Calls Try.prog 33 #[.pointer (some ⟨p, 0, none⟩)] w fun e w' => e = .returned (.int .i64 (lastE s.now : Nat)) ∧ Below w.heap.size w w' := by
  have hok := hD.ok h
  have hsm := hok.small
  have hnl := hok.len
  have HD := Lib.hid (And.intro h hok)
  clear h hok
  go_enter Try.func33, Try.ntmps33
  go_wp2_with fail
  refine (hD.size HD.out.1).mono ?_
  rintro e w1 ⟨rfl, hb⟩
  have HB := Lib.hid hb
  clear hb
  obtain ⟨n, hn⟩ : ∃ n, n = s.good.length := ⟨_, rfl⟩
  rw [← hn] at hsm hnl ⊢
  have HN := Lib.hid hn
  clear hn
  go_wp2_with fail
  go_loopw [3, 10] (fun v i wr => ∃ k : Nat, k ≤ n ∧ i = .int .i64 (k : Nat) ∧ v = .int .i64 (lastE (s.now.take k) : Nat) ∧ Below w.heap.size w wr) (fun _ i _ => n - (intOf i).toNat)
  case atStart => exact ⟨0, Nat.zero_le _, rfl, rfl, HB.out⟩
  case round =>
    obtain ⟨k, hk, rfl, rfl, hbel⟩ := hrel
    have HW := Lib.hid hbel
    clear hbel
    by_cases hlt : k < n
    · have hkl : k < s.now.length := by omega
      go_wp2_with fail
      refine (jread_any hD (d_keep hD HD.out.1 HW.out) k (k + 1) (Nat.le_succ _) (by rw [← HN.out]; omega)).mono ?_
      rintro e w2 ⟨v2, rfl, hv, hb⟩
      rw [part_one hkl] at hv
      have h32 : (s.now.getD k []).length = 32 := HD.out.2.now32 _ (Dsk.getD_mem hkl)
      have hls := last_snoc hkl
      generalize s.now.getD k [] = x at *
      obtain ⟨a2, c2, rfl, g1, g2, g3, g4, -⟩ := hv
      rw [h32] at g1 ⊢
      obtain ⟨b, o, rfl⟩ := row_at g4 (by omega)
      have hbytes : ∀ m, m < 4 → w2.cell? ⟨b, o + 24 + m, none⟩ = some (.int .u8 ((x.getD (24 + m) 0).toNat : Int)) := fun m hm => by
        have := byte_at g4 (k := 24 + m) (by omega)
        rw [← Nat.add_assoc] at this
        exact this
      have HX := Lib.hid (And.intro (below_keep HW.out hb) (And.intro hls hbytes))
      have hsl := run_24 b o 32 c2 g1 w2
      obtain ⟨c4, hc4⟩ : ∃ c4, c4 = c2 - 24 := ⟨_, rfl⟩
      rw [← hc4] at hsl
      have hlE := last_lt (s.now.take k)
      clear hb hls hbytes g3 g4 h32 HW hkl hc4
      go_wp2_with fail
      clear hsl
      go_loop [5, 20] (fun e j => ∃ m : Nat, m ≤ 4 ∧ j = .int .i64 (m : Nat) ∧ e = .int .i64 (numK x 24 m : Nat)) (fun _ j => 4 - (intOf j).toNat)
      case atStart => exact ⟨0, Nat.zero_le _, rfl, rfl⟩
      case round =>
        obtain ⟨m, hm, rfl, rfl⟩ := hrel
        by_cases hm4 : m < 4
        · have hc := HX.out.2.2 m hm4
          have hnk : numK x 24 (m + 1) = numK x 24 m * 256 + (x.getD (24 + m) 0).toNat := rfl
          have hlt24 : numK x 24 m < 16777216 := by
            have := numK_lt x 24 m
            have h3 : (256 : Nat) ^ m ≤ 256 ^ 3 := Nat.pow_le_pow_right (by omega) (by omega)
            omega
          generalize x.getD (24 + m) 0 = y at *
          have hy := y.toNat_lt
          obtain ⟨K1, hK1⟩ : ∃ K1, K1 = numK x 24 (m + 1) := ⟨_, rfl⟩
          rw [← hK1] at hnk
          have HM := Lib.hid hK1
          clear hK1
          generalize numK x 24 m = K0 at *
          have HK := Lib.hid (And.intro hnk (or_byte K0 y hlt24))
          clear hnk
          go_wp2_with fail
          go_round
          case rel => exact ⟨m + 1, by omega, by go_num, by rw [HK.out.2, ← HK.out.1, HM.out]⟩
          case measure => simp [intOf]; omega
        · obtain rfl : m = 4 := by omega
          have hnk := numK_lt x 24 4
          go_wp2_with fail
          go_roundw
          case rel => exact ⟨k + 1, by omega, by go_num, by rw [HX.out.2.1]; congr 1; rcases Nat.lt_or_ge (lastE (s.now.take k)) (numK x 24 4) with h | h <;> first | (rw [if_pos h, Nat.max_eq_right (by omega)]) | (rw [if_neg (by omega), Nat.max_eq_left h]), HX.out.1⟩
          case measure => simp [intOf]; omega
    · obtain rfl : k = n := by omega
      go_wp2_with fail
      go_ret
      refine ⟨?_, HW.out⟩
      rw [List.take_of_length_le (by omega)]; rfl
end Go.Proofs.Ytdgfoldobofgoaa.Jrn
/- Journal: the landed checkpointOf and otherPlace: the disk's checkpoint, and the other place. -/
namespace Go.Proofs.Ytdgfoldobofgoaa.Jrn
set_option maxRecDepth 100000
open Go.RowKit
open Go.Sort
open Kit
open Oct
open Chk
open Frm
open Foot
open Dsk (Sec DS mix mix_at mix_length mix_whole mix_none RdB)
set_option linter.unusedVariables false
variable {D : World → (Nat → Prop) → Nat → DS → Prop}
variable {w w' : World} {F G : Nat → Prop} {p pj : Nat} {s : DS} {j : JS}

/-! ### What is picked, place by place -/

abbrev Pick := Option (Nat × Nat × Nat × Bs)
def pickStep (c : List Sec) (slot : Nat) (acc : Pick) (k : Nat) : Pick := match unpackB (placeB c slot k) with
  | none => acc
  | some (e, q, b, _) => match acc with
    | none => some (k, e, q, b)
    | some (P, E, Q, B) => if E < e then some (k, e, q, b) else some (P, E, Q, B)
def pickN (c : List Sec) (slot : Nat) : Nat → Pick
  | 0 => none
  | k + 1 => pickStep c slot (pickN c slot k) k
theorem pick_two (c : List Sec) (slot : Nat) : pickN c slot 2 = pick c slot := by
  unfold pickN pickN pickN pick pickStep
  cases unpackB (placeB c slot 0) with
  | none =>
    cases unpackB (placeB c slot 1) with
    | none => rfl
    | some y => rfl
  | some x =>
    obtain ⟨e, q, b, k⟩ := x
    cases unpackB (placeB c slot 1) with
    | none => rfl
    | some y =>
      obtain ⟨e', q', b', k'⟩ := y
      rfl
theorem place_part {c : List Sec} {slot k : Nat} : (part c (k * slot) ((k + 1) * slot)).flatten = placeB c slot k := by
  unfold part placeB
  rw [show (k + 1) * slot - k * slot = slot by rw [Nat.succ_mul]; omega]

/-! ### A block of cells that is overwritten -/

theorem wpList_store_own {P : Program} {ops : Array Oper} {rest : List Oper} {o : Oper} {a : Act} {w : World} {Q : Exit → Act → World → Prop} (hgd : o.guard = none) (ty : TypeId) (x y : Operand) (ho : o.op = .store ty x y)
    (g : Nat) (ds : List Value) (hx : a.eval x = .pointer (some ⟨g, 0, none⟩)) (hy : a.eval y = .agg ds.toArray) (cs : List Value) (t : TypeId) (hB : Arr.Blk w g t cs) (hi : (P.info? ty).map (·.size) = some ds.length)
    (hold : cs.length = ds.length) (h1 : ds.all (·.oneCell') = true)
    (h : ∀ w', Arr.Blk w' g t ds → Chg (fun k => k = g) w w' → w'.heap.size = w.heap.size → wpList P ops Q rest (a.put o.dst undef) w') : wpList P ops Q (o :: rest) a w :=
  wpList_store_row hgd ty x y ho g ds.toArray hx hy t cs.toArray hB (by simpa using hi) (by simpa using hold) (by simpa using h1) (h _ (Arr.blk_row hB ds) (chg_row (F := fun k => k = g) (chg_refl _ _) (.inl rfl) _) (setRow_size _ _ _))
theorem results_cell_row2 {P : Program} {fn : Func} {p u : Tmp} {ty : TypeId} (h : fn.results = #[.cell p ty, .tmp u]) (tmps : Array Value) (w : World) (g : Nat) (t : TypeId) (cs : List Value) (d : TypeDesc)
    (hp : tmps.getD p undef = .pointer (some ⟨g, 0, none⟩)) (hg : Arr.Blk w g t cs) (hu : P.underlying ty = some d) (hd : (match d with | .struct _ | .array _ _ => true | _ => false) = true) (hi : (P.info? ty).map (·.size) = some cs.length) :
    (results fn tmps).run P w = .ok (.tuple #[.agg cs.toArray, tmps.getD u undef]) w := by
  rw [results_cell_tmp h, hp]
  simp [asAddr, Result.andThen, run_loadVar_row w g t ty cs.toArray (0, 0) d hg hu hd (by simpa using hi)]
theorem info_ck : (Try.prog.info? 53).map (·.size) = some 4 := by kernel_rfl

/-! ### The landed checkpointOf -/

def zero4 : List Value := [.int .i64 0, .int .i64 0, .int .i64 0, .slice none 0 0]
/-- What has been picked, as it lies in the call's own block B. -/
def Acc (w : World) (B : Nat) (acc : Pick) : Prop := match acc with
  | none => Arr.Blk w B 53 zero4
  | some (P, E, Q, b) => ∃ v, Arr.Blk w B 53 [.int .i64 (P : Nat), .int .i64 (E : Nat), .int .i64 (Q : Nat), v] ∧ NewB w (B + 1) v b
theorem new_keep {base : Nat} {v : Value} {l : Bs} (h : NewB w base v l) (hb : Below w.heap.size w w') : NewB w' base v l := by
  obtain ⟨a, c, rfl, h1, h2, h3, h4, h5⟩ := h
  exact ⟨a, c, rfl, h1, h2, h3, row_keep encB_len h4 hb, fun q hq => ⟨(h5 q hq).1, Nat.lt_of_lt_of_le (h5 q hq).2 hb.size⟩⟩
theorem new_le {base base' : Nat} {v : Value} {l : Bs} (h : NewB w base v l) (hb : base' ≤ base) : NewB w base' v l := by
  obtain ⟨a, c, rfl, h1, h2, h3, h4, h5⟩ := h
  exact ⟨a, c, rfl, h1, h2, h3, h4, fun q hq => ⟨Nat.le_trans hb (h5 q hq).1, (h5 q hq).2⟩⟩
theorem new_far {base : Nat} {v : Value} {l : Bs} (h : NewB w base v l) (hC : Chg F w w') (hF : ∀ k, base ≤ k → ¬ F k) : NewB w' base v l := by
  obtain ⟨a, c, rfl, h1, h2, h3, h4, h5⟩ := h
  exact ⟨a, c, rfl, h1, h2, h3, row_far encB_len (P := fun k => base ≤ k) hC hF h4 fun q hq => (h5 q hq).1, fun q hq => ⟨(h5 q hq).1, Nat.lt_of_lt_of_le (h5 q hq).2 hC.size⟩⟩
theorem acc_keep {B : Nat} {acc : Pick} (h : Acc w B acc) (hb : Below w.heap.size w w') : Acc w' B acc := by
  have hblk : ∀ cs, Arr.Blk w B 53 cs → Arr.Blk w' B 53 cs := fun cs h => blk_chg (new_chg hb (fun _ => False)) h id
  match acc, h with
  | none, h => exact hblk _ h
  | some (P, E, Q, b), ⟨v, h1, h2⟩ => exact ⟨v, hblk _ h1, new_keep h2 hb⟩
/-- What checkpointOf answers. -/
def PickA (w w' : World) (acc : Pick) (e : Ending) : Prop := match acc with
  | none => e = .returned (.tuple #[.agg zero4.toArray, .bool false])
  | some (P, E, Q, b) => ∃ v, e = .returned (.tuple #[.agg #[.int .i64 (P : Nat), .int .i64 (E : Nat), .int .i64 (Q : Nat), v], .bool true]) ∧ NewB w' w.heap.size v b
theorem eq_opt {α : Type} (o : Option α) : o = none ∨ ∃ x, o = some x := by cases o <;> simp

set_option maxHeartbeats 8000000 in
theorem jpick_any (hD : Dsk.Prog D) (hP : Frm.Prog) (h : D w F p s) (slot : Nat) (h1 : 1 ≤ slot) (h2 : 2 * slot < s.good.length) (h100 : s.good.length ≤ 100) : Calls Try.prog 25 #[.pointer (some ⟨p, 0, none⟩), .int .i64 (slot : Nat)] w fun e w' => PickA w w' (pick s.now slot) e ∧ Below w.heap.size w w' := by
  have hok := hD.ok h
  have hnl := hok.len
  have HD := Lib.hid (And.intro h hok)
  clear h hok
  go_enter Try.func25, Try.ntmps25
  go_wp2_with fail
  go_loopw [5, 12] (fun ov i wr => ∃ k : Nat, k ≤ 2 ∧ i = .int .i64 (k : Nat) ∧ ov = .bool (pickN s.now slot k).isSome ∧ Acc wr w.heap.size (pickN s.now slot k) ∧ Below w.heap.size w wr) (fun _ i _ => 2 - (intOf i).toNat)
  case atStart => exact ⟨0, Nat.zero_le _, rfl, rfl, Arr.blk_new w _ _ zero4 rfl, below_alloc _ _⟩
  case round =>
    obtain ⟨k, hk, rfl, rfl, hacc, hbel⟩ := hrel
    have HW := Lib.hid (And.intro hacc hbel)
    clear hacc hbel
    by_cases hlt : k < 2
    · have hks1 : k * slot ≤ slot := by have := Nat.mul_le_mul_right slot (show k ≤ 1 by omega); omega
      have hks2 : (k + 1) * slot ≤ 2 * slot := Nat.mul_le_mul_right slot (show k + 1 ≤ 2 by omega)
      obtain ⟨A0, hA0⟩ : ∃ x, x = k * slot := ⟨_, rfl⟩
      obtain ⟨A1, hA1⟩ : ∃ x, x = (k + 1) * slot := ⟨_, rfl⟩
      have hi0 : (k : Int) * (slot : Int) = (A0 : Nat) := by rw [hA0]; exact (Int.natCast_mul _ _).symm
      have hi1 : ((k : Int) + 1) * (slot : Int) = (A1 : Nat) := by rw [hA1, Int.natCast_mul]; rfl
      have ha01 : A0 ≤ A1 := by rw [hA0, hA1, Nat.succ_mul]; omega
      have ha1 : A1 ≤ 2 * slot := by omega
      have HA := Lib.hid (show (part s.now A0 A1).flatten = placeB s.now slot k by rw [hA0, hA1]; exact place_part)
      have HK := Lib.hid (show pickN s.now slot (k + 1) = pickStep s.now slot (pickN s.now slot k) k from rfl)
      clear hA0 hA1 hks1 hks2
      go_wp2_with fail
      refine (jread_any hD (d_keep hD HD.out.1 HW.out.2) A0 A1 ha01 (by omega)).mono ?_
      rintro e w2 ⟨v2, rfl, hv, hb⟩
      have hfl : (part s.now A0 A1).flatten.length = 32 * (A1 - A0) := by rw [flat_length32 _ (part_32 HD.out.2.now32 _ _), part_length ha01 (by omega)]
      rw [HA.out] at hv hfl
      have hsz2 : w.heap.size < w2.heap.size := Nat.lt_of_lt_of_le (show w.heap.size < wr.heap.size from by
        rcases eq_opt (pickN s.now slot k) with ha | ⟨⟨P, E, Q, b0⟩, ha⟩
        · have := HW.out.1; rw [ha] at this; exact Arr.blk_lt this
        · have := HW.out.1; rw [ha] at this; obtain ⟨_, h1, _⟩ := this; exact Arr.blk_lt h1) hb.size
      have HW2 := Lib.hid (And.intro (acc_keep HW.out.1 hb) (And.intro (below_keep HW.out.2 hb) hsz2))
      obtain ⟨a2, c2, rfl, hA2⟩ := arg_new hv
      obtain ⟨pb, hpb⟩ : ∃ x, x = placeB s.now slot k := ⟨_, rfl⟩
      rw [← hpb] at hA2 hfl ⊢
      have HPb := Lib.hid hpb
      have HA2 := Lib.hid (And.intro hA2 (show pb.length ≤ 4000 by omega))
      obtain ⟨pl, hpl⟩ : ∃ x, x = pb.length := ⟨_, rfl⟩
      rw [← hpl] at HA2 ⊢
      clear hb hv hA2 hpb hfl hsz2 hpl HW HA hi0 hi1 ha01 ha1
      go_wp2_with fail
      refine (hP.unpack a2 pl c2 pb w2 HA2.out.1 HA2.out.2).mono ?_
      rintro e w3 ⟨v3, rfl, hn3, hb3⟩
      rcases eq_opt (unpackB pb) with hu | ⟨⟨e, q, b, kk⟩, hu⟩
      · rw [ansU_none hu]
        have HKs := Lib.hid (show pickN s.now slot (k + 1) = pickN s.now slot k by rw [HK.out]; unfold pickStep; rw [← HPb.out, hu])
        have H3 := Lib.hid (And.intro (acc_keep HW2.out.1 hb3) (below_keep HW2.out.2.1 hb3))
        clear hn3 hb3 hu HW2 HA2 HK HPb
        go_wp2_with fail
        go_roundw
        case rel => exact ⟨k + 1, by omega, by go_num, by rw [HKs.out], by rw [HKs.out]; exact H3.out.1, H3.out.2⟩
        case measure => simp [intOf]; omega
      · rw [ansU_some hu] at hn3 ⊢
        have hn3' : NewB w3 w2.heap.size v3 b := hn3
        obtain ⟨a3, c3, rfl, _⟩ := arg_new hn3'
        have hK : pickN s.now slot (k + 1) = match pickN s.now slot k with
            | none => some (k, e, q, b)
            | some (P, E, Q, B) => if E < e then some (k, e, q, b) else some (P, E, Q, B) := by
          rw [HK.out]; unfold pickStep; rw [← HPb.out, hu]
        have hacc := acc_keep HW2.out.1 hb3
        have H3 := Lib.hid (And.intro hn3' (And.intro (below_keep HW2.out.2.1 hb3) (show w.heap.size + 1 ≤ w2.heap.size from HW2.out.2.2)))
        clear hn3 hn3' hb3 hu HA2 HW2 HK HPb
        rcases eq_opt (pickN s.now slot k) with ha | ⟨⟨P, E, Q, b0⟩, ha⟩
        · rw [ha] at hacc hK ⊢
          have HAc : Hid (Arr.Blk w3 w.heap.size 53 zero4) := Lib.hid hacc
          have HKs : Hid (pickN s.now slot (k + 1) = some (k, e, q, b)) := Lib.hid hK
          clear hacc hK ha
          simp only [Option.isSome_none]
          go_wp2_with (first | (refine wpList_store_own rfl 53 (.tmp 4) (.tmp 47) rfl w.heap.size [.int .i64 (k : Nat), .int .i64 (e : Nat), .int .i64 (q : Nat), .slice a3 b.length c3] rfl rfl zero4 53 HAc.out info_ck rfl rfl ?_; intro w4 hblk hC hsz) | fail)
          have H4 := Lib.hid (show Acc w4 w.heap.size (some (k, e, q, b)) ∧ Below w.heap.size w w4 from ⟨⟨_, hblk, new_far (new_le H3.out.1 H3.out.2.2) hC fun y hy hh => by omega⟩, H3.out.2.1.trans (chg_below hC (fun y hy => by omega) H3.out.2.1.size)⟩)
          clear hblk hC hsz H3
          go_roundw
          case rel => exact ⟨k + 1, by omega, by go_num, by rw [HKs.out]; rfl, by rw [HKs.out]; exact H4.out.1, H4.out.2⟩
          case measure => simp [intOf]; omega
        · rw [ha] at hacc hK ⊢
          obtain ⟨v0, hblk0, hn0⟩ := hacc
          have c1 := Arr.blk_cell hblk0 1
          simp only [List.getElem?_cons_zero, List.getElem?_cons_succ] at c1
          have HAc := Lib.hid (And.intro hblk0 hn0)
          clear hblk0 hn0
          simp only [Option.isSome_some]
          replace hK : pickN s.now slot (k + 1) = if E < e then some (k, e, q, b) else some (P, E, Q, b0) := hK
          by_cases hEe : E < e
          · rw [if_pos hEe] at hK
            have HKs := Lib.hid hK
            have hEi : (E : Int) < e := by omega
            clear hK hEe ha
            go_wp2_with (first | (refine wpList_store_own rfl 53 (.tmp 4) (.tmp 47) rfl w.heap.size [.int .i64 (k : Nat), .int .i64 (e : Nat), .int .i64 (q : Nat), .slice a3 b.length c3] rfl rfl [.int .i64 (P : Nat), .int .i64 (E : Nat), .int .i64 (Q : Nat), v0] 53 HAc.out.1 info_ck rfl rfl ?_; intro w4 hblk hC hsz) | fail)
            have H4 := Lib.hid (show Acc w4 w.heap.size (some (k, e, q, b)) ∧ Below w.heap.size w w4 from ⟨⟨_, hblk, new_far (new_le H3.out.1 H3.out.2.2) hC fun y hy hh => by omega⟩, H3.out.2.1.trans (chg_below hC (fun y hy => by omega) H3.out.2.1.size)⟩)
            clear hblk hC hsz H3
            go_roundw
            case rel => exact ⟨k + 1, by omega, by go_num, by rw [HKs.out]; rfl, by rw [HKs.out]; exact H4.out.1, H4.out.2⟩
            case measure => simp [intOf]; omega
          · rw [if_neg hEe] at hK
            have HKs := Lib.hid hK
            have hEi : ¬ (E : Int) < e := by omega
            have HAc2 := Lib.hid (show Acc w3 w.heap.size (some (P, E, Q, b0)) from ⟨v0, HAc.out.1, HAc.out.2⟩)
            clear hK hEe ha
            go_wp2_with fail
            go_roundw
            case rel => exact ⟨k + 1, by omega, by go_num, by rw [HKs.out]; rfl, by rw [HKs.out]; exact HAc2.out, H3.out.2.1⟩
            case measure => simp [intOf]; omega
    · obtain rfl : k = 2 := by omega
      have hacc : Acc wr w.heap.size (pick s.now slot) := by rw [← pick_two]; exact HW.out.1
      rw [pick_two]
      rcases eq_opt (pick s.now slot) with hp | ⟨⟨P, E, Q, b⟩, hp⟩
      · rw [hp] at hacc ⊢
        have HAc : Hid (Arr.Blk wr w.heap.size 53 zero4) := Lib.hid hacc
        have HPk := Lib.hid hp
        clear hacc hp
        simp only [Option.isSome_none]
        go_wp2_with (first | (refine Arr.wpList_load_blk rfl 53 (.tmp 4) rfl w.heap.size rfl zero4 53 HAc.out _ Try.underlying53 rfl info_ck ?_) | (refine wpList_store_own rfl 53 (.tmp 4) (.tmp 49) rfl w.heap.size zero4 rfl rfl zero4 53 HAc.out info_ck rfl rfl ?_; intro w4 hblk hC hsz) | fail)
        refine bodyPost_ret (results_cell_row2 rfl _ _ w.heap.size 53 zero4 _ rfl hblk Try.underlying53 rfl info_ck) rfl ?_
        exact ⟨by rw [HPk.out]; rfl, HW.out.2.trans (chg_below hC (fun y hy => by omega) HW.out.2.size)⟩
      · rw [hp] at hacc ⊢
        obtain ⟨v, hblk0, hn0⟩ := hacc
        obtain ⟨a3, c3, rfl, _⟩ := arg_new hn0
        have HAc := Lib.hid (And.intro hblk0 hn0)
        have HPk := Lib.hid hp
        clear hblk0 hn0 hp
        simp only [Option.isSome_some]
        go_wp2_with (first | (refine Arr.wpList_load_blk rfl 53 (.tmp 4) rfl w.heap.size rfl [.int .i64 (P : Nat), .int .i64 (E : Nat), .int .i64 (Q : Nat), .slice a3 b.length c3] 53 HAc.out.1 _ Try.underlying53 rfl info_ck ?_) | (refine wpList_store_own rfl 53 (.tmp 4) (.tmp 49) rfl w.heap.size [.int .i64 (P : Nat), .int .i64 (E : Nat), .int .i64 (Q : Nat), .slice a3 b.length c3] rfl rfl [.int .i64 (P : Nat), .int .i64 (E : Nat), .int .i64 (Q : Nat), .slice a3 b.length c3] 53 HAc.out.1 info_ck rfl rfl ?_; intro w4 hblk hC hsz) | fail)
        refine bodyPost_ret (results_cell_row2 rfl _ _ w.heap.size 53 [.int .i64 (P : Nat), .int .i64 (E : Nat), .int .i64 (Q : Nat), .slice a3 b.length c3] _ rfl hblk Try.underlying53 rfl info_ck) rfl ?_
        exact ⟨by rw [HPk.out]; exact ⟨_, rfl, new_le (new_far HAc.out.2 hC fun y hy hh => by omega) (Nat.le_succ _)⟩, HW.out.2.trans (chg_below hC (fun y hy => by omega) HW.out.2.size)⟩

/-! ### The landed otherPlace -/

def otherN (acc : Pick) : Nat := match acc with | some (P, _, _, _) => if P = 0 then 1 else 0 | none => 0
theorem pick_place {c : List Sec} {slot P E Q : Nat} {b : Bs} (h : pick c slot = some (P, E, Q, b)) : P < 2 ∧ E < 4294967296 ∧ Q < 4294967296 ∧ b.length ≤ 65535 := by
  unfold pick at h
  cases h0 : unpackB (placeB c slot 0) with
  | none =>
    cases h1 : unpackB (placeB c slot 1) with
    | none => rw [h0, h1] at h; cases h
    | some y =>
      obtain ⟨e, q, b', k⟩ := y
      rw [h0, h1] at h
      obtain ⟨u1, u2, u3, _⟩ := unpack_some h1
      cases h
      exact ⟨by omega, u1, u2, by omega⟩
  | some x =>
    obtain ⟨e, q, b', k⟩ := x
    obtain ⟨u1, u2, u3, _⟩ := unpack_some h0
    cases h1 : unpackB (placeB c slot 1) with
    | none => rw [h0, h1] at h; cases h; exact ⟨by omega, u1, u2, by omega⟩
    | some y =>
      obtain ⟨e', q', b'', k'⟩ := y
      obtain ⟨v1, v2, v3, _⟩ := unpack_some h1
      rw [h0, h1] at h
      simp only at h
      split at h
      · cases h; exact ⟨by omega, v1, v2, by omega⟩
      · cases h; exact ⟨by omega, u1, u2, by omega⟩
set_option maxHeartbeats 4000000 in
theorem jother_any (hD : Dsk.Prog D) (hP : Frm.Prog) (h : D w F p s) (slot : Nat) (h1 : 1 ≤ slot) (h2 : 2 * slot < s.good.length) (h100 : s.good.length ≤ 100) : Calls Try.prog 32 #[.pointer (some ⟨p, 0, none⟩), .int .i64 (slot : Nat)] w fun e w' => e = .returned (.int .i64 (otherN (pick s.now slot) : Nat)) ∧ Below w.heap.size w w' := by
  have HC := Lib.hid (jpick_any hD hP h slot h1 h2 h100)
  clear h h1 h2 h100
  go_enter Try.func32, Try.ntmps32
  go_wp2_with fail
  refine HC.out.mono ?_
  rintro e w1 ⟨hp, hb⟩
  rcases eq_opt (pick s.now slot) with ha | ⟨⟨P, E, Q, b⟩, ha⟩
  · rw [ha] at hp
    obtain rfl : e = _ := hp
    have HB := Lib.hid (And.intro (show otherN (pick s.now slot) = 0 by rw [ha]; rfl) hb)
    clear ha hb HC
    go_wp2_with (first | (refine wpList_store_own rfl 53 (.tmp 5) (.tmp 11) rfl w1.heap.size zero4 rfl rfl zero4 53 (Arr.blk_new w1 _ _ zero4 rfl) info_ck rfl rfl ?_; intro w4 hblk hC hsz) | fail)
    go_ret
    exact ⟨by rw [HB.out.1]; rfl, (below_keep HB.out.2 (below_alloc w1 (.cells zero4.toArray 53))).trans (chg_below hC (fun y hy => by have := HB.out.2.size; omega) (Nat.le_trans HB.out.2.size (by simp)))⟩
  · rw [ha] at hp
    obtain ⟨v, rfl, hn⟩ := hp
    obtain ⟨a3, c3, rfl, _⟩ := arg_new hn
    obtain ⟨hp2, _⟩ := pick_place ha
    have HB := Lib.hid (And.intro (show otherN (pick s.now slot) = if P = 0 then 1 else 0 by rw [ha]; rfl) hb)
    clear ha hb HC hn
    obtain rfl | rfl : P = 0 ∨ P = 1 := by omega
    all_goals
      go_wp2_with (first | (refine wpList_store_own rfl 53 (.tmp 5) (.tmp 11) rfl w1.heap.size [.int .i64 _, .int .i64 (E : Nat), .int .i64 (Q : Nat), .slice a3 b.length c3] rfl rfl zero4 53 (Arr.blk_new w1 _ _ zero4 rfl) info_ck rfl rfl ?_; intro w4 hblk hC hsz; have c0 := Arr.blk_cell hblk 0; simp only [List.getElem?_cons_zero] at c0; have HX := Lib.hid (And.intro hC hsz); clear hC hsz hblk) | fail)
      go_ret
      exact ⟨by rw [HB.out.1]; rfl, (below_keep HB.out.2 (below_alloc w1 (.cells zero4.toArray 53))).trans (chg_below HX.out.1 (fun y hy => by have := HB.out.2.size; omega) (Nat.le_trans HB.out.2.size (by simp)))⟩
end Go.Proofs.Ytdgfoldobofgoaa.Jrn
/- A scope in which the run jumps back to several labels: what holds at a jump to each, and a measure that every pass lowers. -/
namespace Go.Proofs.Ytdgfoldobofgoaa.Scp

/-- As Q; by a goto to a label: what is said of that label. -/
def Jumps (J : Nat → Act → World → Prop) (Q : Exit → Act → World → Prop) : Exit → Act → World → Prop
  | .goto l, a, w => J l a w
  | e, a, w => Q e a w

variable {P : Program} {a : Act} {w : World} {Q : Exit → Act → World → Prop}
theorem jumps_ret {J : Nat → Act → World → Prop} : Jumps J Q .ret a w = Q .ret a w := rfl
theorem jumps_normal {J : Nat → Act → World → Prop} : Jumps J Q .normal a w = Q .normal a w := rfl
theorem jumps_goto {J : Nat → Act → World → Prop} {l : Nat} : Jumps J Q (.goto l) a w = J l a w := rfl

theorem wp_labels {c : Code} (J : Nat → Act → World → Prop) (m : Nat → Act → World → Nat)
    (first : c.wp P (Jumps J Q) a w)
    (pass : ∀ l a w, J l a w → ∃ rest, findLabel c l = some rest ∧ rest.wp P (Jumps (fun l' a' w' => J l' a' w' ∧ m l' a' w' < m l a w) Q) a w) : (Code.scope c).wp P Q a w := by
  intro b k cs
  have key : ∀ n l a w, m l a w = n → J l a w → ∃ rest, findLabel c l = some rest ∧ ∃ e a' w', Q e a' w' ∧ Arrives P (lone (b.at a (.code rest :: .inScope c :: k)) cs w) b k cs e a' w' := by
    intro n
    induction n using Nat.strongRecOn with
    | _ n ih =>
      intro l a w hn hJ
      obtain ⟨rest, hf, hp⟩ := pass l a w hJ
      refine ⟨rest, hf, ?_⟩
      obtain ⟨e, a1, w1, hq, harr⟩ := hp b (.inScope c :: k) cs
      cases e with
      | normal => exact ⟨.normal, a1, w1, hq, Steps.trans harr (.one step_inScope)⟩
      | exit id => exact ⟨.exit id, a1, w1, hq, fun k' hk => harr k' (by simp [exitTo, hk])⟩
      | goto l' =>
        obtain ⟨hJ', hlt⟩ := hq
        obtain ⟨rest2, hf2, e2, a2, w2, hq2, harr2⟩ := ih _ (by omega) l' a1 w1 rfl hJ'
        have hg : gotoIn l' (.inScope c :: k) = some (.code rest2 :: .inScope c :: k) := by simp [gotoIn, hf2]
        exact ⟨e2, a2, w2, hq2, .of_steps (harr _ hg) harr2⟩
      | ret => exact ⟨_, a1, w1, hq, harr⟩
      | panic ch => exact ⟨_, a1, w1, hq, harr⟩
      | outgrown => exact ⟨_, a1, w1, hq, harr⟩
  obtain ⟨e, a1, w1, hq, harr⟩ := first b (.inScope c :: k) cs
  cases e with
  | normal => exact ⟨.normal, a1, w1, hq, .head step_scope (Steps.trans harr (.one step_inScope))⟩
  | exit id => exact ⟨.exit id, a1, w1, hq, fun k' hk => .head step_scope (harr k' (by simp [exitTo, hk]))⟩
  | goto l' =>
    obtain ⟨rest, hf, e2, a2, w2, hq2, harr2⟩ := key _ l' a1 w1 rfl hq
    have hg : gotoIn l' (.inScope c :: k) = some (.code rest :: .inScope c :: k) := by simp [gotoIn, hf]
    exact ⟨e2, a2, w2, hq2, .of_steps (.head step_scope (harr _ hg)) harr2⟩
  | ret => exact ⟨_, a1, w1, hq, .of_steps (.one step_scope) harr⟩
  | panic ch => exact ⟨_, a1, w1, hq, .of_steps (.one step_scope) harr⟩
  | outgrown => exact ⟨_, a1, w1, hq, .of_steps (.one step_scope) harr⟩

/-- Two labels, 0 and 1. -/
theorem wp_two {c r0 r1 : Code} (J0 J1 : Act → World → Prop) (m0 m1 : Act → World → Nat) (h0 : findLabel c 0 = some r0) (h1 : findLabel c 1 = some r1)
    (first : c.wp P (Jumps (fun l a w => (l = 0 ∧ J0 a w) ∨ (l = 1 ∧ J1 a w)) Q) a w)
    (pass0 : ∀ a w, J0 a w → r0.wp P (Jumps (fun l a' w' => (l = 0 ∧ J0 a' w' ∧ m0 a' w' < m0 a w) ∨ (l = 1 ∧ J1 a' w' ∧ m1 a' w' < m0 a w)) Q) a w)
    (pass1 : ∀ a w, J1 a w → r1.wp P (Jumps (fun l a' w' => (l = 0 ∧ J0 a' w' ∧ m0 a' w' < m1 a w) ∨ (l = 1 ∧ J1 a' w' ∧ m1 a' w' < m1 a w)) Q) a w) : (Code.scope c).wp P Q a w := by
  have hJ : ∀ (m : Nat) (a : Act) (w : World) (e : Exit) (a' : Act) (w' : World),
      Jumps (fun l a' w' => (l = 0 ∧ J0 a' w' ∧ m0 a' w' < m) ∨ (l = 1 ∧ J1 a' w' ∧ m1 a' w' < m)) Q e a' w' →
      Jumps (fun l a' w' => ((l = 0 ∧ J0 a' w') ∨ (l = 1 ∧ J1 a' w')) ∧ (if l = 0 then m0 a' w' else m1 a' w') < m) Q e a' w' := by
    intro m a w e a' w' h
    cases e with
    | goto l =>
      rcases h with ⟨rfl, h1, h2⟩ | ⟨rfl, h1, h2⟩
      · exact ⟨.inl ⟨rfl, h1⟩, h2⟩
      · exact ⟨.inr ⟨rfl, h1⟩, h2⟩
    | normal => exact h
    | exit id => exact h
    | ret => exact h
    | panic ch => exact h
    | outgrown => exact h
  refine wp_labels (fun l a w => (l = 0 ∧ J0 a w) ∨ (l = 1 ∧ J1 a w)) (fun l a w => if l = 0 then m0 a w else m1 a w) first fun l a w h => ?_
  rcases h with ⟨rfl, h⟩ | ⟨rfl, h⟩
  · exact ⟨r0, h0, Code.wp_mono (fun e a' w' hq => hJ _ a w e a' w' hq) (pass0 a w h)⟩
  · exact ⟨r1, h1, Code.wp_mono (fun e a' w' hq => hJ _ a w e a' w' hq) (pass1 a w h)⟩

theorem jumps_mono {J J' : Nat → Act → World → Prop} (h : ∀ l a w, J l a w → J' l a w) (e : Exit) (a : Act) (w : World) : Jumps J Q e a w → Jumps J' Q e a w := by
  intro hq
  cases e with
  | goto l => exact h l a w hq
  | normal => exact hq
  | exit id => exact hq
  | ret => exact hq
  | panic ch => exact hq
  | outgrown => exact hq

/-- Two labels, the one's code falling through into the other's, the start into the first's. -/
theorem wp_falls {c r0 r1 : Code} (J0 J1 : Act → World → Prop) (m0 m1 : Act → World → Nat) (h0 : findLabel c 0 = some (Code.skip.seq r0)) (h1 : findLabel c 1 = some (Code.skip.seq r1))
    (pass1 : ∀ a w, J1 a w → r1.wp P (Jumps (fun l a' w' => (l = 0 ∧ J0 a' w' ∧ m0 a' w' < m1 a w) ∨ (l = 1 ∧ J1 a' w' ∧ m1 a' w' < m1 a w)) Q) a w)
    (pass0 : (∀ a w m, J1 a w → m1 a w ≤ m → r1.wp P (Jumps (fun l a' w' => (l = 0 ∧ J0 a' w' ∧ m0 a' w' < m) ∨ (l = 1 ∧ J1 a' w' ∧ m1 a' w' < m)) Q) a w) →
      ∀ a w, J0 a w → r0.wp P (Jumps (fun l a' w' => (l = 0 ∧ J0 a' w' ∧ m0 a' w' < m0 a w) ∨ (l = 1 ∧ J1 a' w' ∧ m1 a' w' < m0 a w)) Q) a w)
    (first : (∀ a w, J0 a w → r0.wp P (Jumps (fun l a w => (l = 0 ∧ J0 a w) ∨ (l = 1 ∧ J1 a w)) Q) a w) → c.wp P (Jumps (fun l a w => (l = 0 ∧ J0 a w) ∨ (l = 1 ∧ J1 a w)) Q) a w) : (Code.scope c).wp P Q a w := by
  have p0 := pass0 fun a w m hj hm => Code.wp_mono (jumps_mono fun l a' w' h => by
    rcases h with ⟨h1, h2, h3⟩ | ⟨h1, h2, h3⟩
    · exact .inl ⟨h1, h2, by omega⟩
    · exact .inr ⟨h1, h2, by omega⟩) (pass1 a w hj)
  refine wp_two J0 J1 m0 m1 h0 h1 (first fun a w hj => Code.wp_mono (jumps_mono fun l a' w' h => ?_) (p0 a w hj)) (fun a w hj => wp_seq (wp_skip (p0 a w hj))) (fun a w hj => wp_seq (wp_skip (pass1 a w hj)))
  rcases h with ⟨h1, h2, _⟩ | ⟨h1, h2, _⟩
  · exact .inl ⟨h1, h2⟩
  · exact .inr ⟨h1, h2⟩

end Go.Proofs.Ytdgfoldobofgoaa.Scp
/- Journal: the landed records: those with which a log begins, one by one. -/
namespace Go.Proofs.Ytdgfoldobofgoaa.Jrn
set_option maxRecDepth 100000
open Go.RowKit
open Go.Sort
open Kit
open Oct
open Chk
open Frm
open Foot
open Scp
open Dsk (Sec DS mix mix_at mix_length mix_whole mix_none RdB)
set_option linter.unusedVariables false
variable {w w' wr w9 : World} {F G : Nat → Prop} {p pj : Nat} {s : DS} {j : JS} {v v9 : Value} {ss : List Sv} {x : Sv}

/-- One label, into which the code falls, and to which it jumps back. -/
theorem wp_fall {P : Program} {a : Act} {w : World} {Q : Exit → Act → World → Prop} {c r0 : Code} (J0 : Act → World → Prop) (m0 : Act → World → Nat) (h0 : findLabel c 0 = some (Code.skip.seq r0))
    (pass : ∀ a w, J0 a w → r0.wp P (Jumps (fun l a' w' => l = 0 ∧ J0 a' w' ∧ m0 a' w' < m0 a w) Q) a w)
    (first : (∀ a w, J0 a w → r0.wp P (Jumps (fun l a w => l = 0 ∧ J0 a w) Q) a w) → c.wp P (Jumps (fun l a w => l = 0 ∧ J0 a w) Q) a w) : (Code.scope c).wp P Q a w := by
  refine wp_labels (fun l a w => l = 0 ∧ J0 a w) (fun _ a w => m0 a w) (first fun a w hj => Code.wp_mono (jumps_mono fun l a' w' h => ⟨h.1, h.2.1⟩) (pass a w hj)) fun l a w h => ?_
  obtain ⟨rfl, hj⟩ := h
  exact ⟨_, h0, wp_seq (wp_skip (Code.wp_mono (jumps_mono fun l a' w' h => ⟨⟨h.1, h.2.1⟩, h.2.2⟩) (pass a w hj)))⟩

/-! ### The list, as it grows -/

structure Ri (w wr : World) (v : Value) (ss : List Sv) : Prop where
  own : Owns encV 1 27 wr w.heap.size v ss
  below : Below w.heap.size w wr
  el : ∀ s ∈ ss, SvOk wr s ∧ ∀ q, s.a = some q → w.heap.size ≤ q.block ∧ q.block < wr.heap.size ∧ v.ownBlock ≠ some q.block
theorem ri_keep (h : Ri w wr v ss) (hb : Below wr.heap.size wr w') : Ri w w' v ss :=
  ⟨own_chg (new_chg hb (fun _ => False)) h.own fun _ _ h => h, below_keep h.below hb, fun s hs => ⟨sv_keep (h.el s hs).1 hb, fun q hq => by
    obtain ⟨h1, h2, h3⟩ := (h.el s hs).2 q hq
    exact ⟨h1, Nat.lt_of_lt_of_le h2 hb.size, h3⟩⟩⟩
theorem ri_push {o : Obj} (h : Ri w wr v ss) (hx : SvOk wr x) (hxq : ∀ q, x.a = some q → w.heap.size ≤ q.block ∧ q.block < wr.heap.size ∧ v.ownBlock ≠ some q.block)
    (ho : Owns encV 1 27 w9 w.heap.size v9 (ss ++ [x])) (hg : (wr.alloc o).grownBy w9 v.ownBlock) (hw : v9.ownBlock = v.ownBlock ∨ v9.ownBlock = some (wr.alloc o).heap.size) : Ri w w9 v9 (ss ++ [x]) := by
  have hC : Chg (fun k => v.ownBlock = some k) wr w9 := chg_grown (chg_alloc (chg_refl _ wr) o) hg fun k hk => .inl hk
  have hb := below_alloc wr o
  refine ⟨ho, (h.below.alloc h.below.size o).trans (Two.below_grown (owns_alloc h.own o) hg (Nat.le_trans h.below.size hb.size)), fun s hs => ?_⟩
  have hold : SvOk wr s ∧ ∀ q, s.a = some q → w.heap.size ≤ q.block ∧ q.block < wr.heap.size ∧ v.ownBlock ≠ some q.block := by
    rcases List.mem_append.1 hs with hs | hs
    · exact h.el s hs
    · simp at hs; subst hs; exact ⟨hx, hxq⟩
  refine ⟨arg_far (P := fun k => v.ownBlock ≠ some k) hC (fun _ hk => hk) hold.1 fun q hq => (hold.2 q hq).2.2, fun q hq => ?_⟩
  obtain ⟨h1, h2, h3⟩ := hold.2 q hq
  refine ⟨h1, Nat.lt_of_lt_of_le h2 hC.size, ?_⟩
  rcases hw with hw | hw
  · rw [hw]; exact h3
  · rw [hw]; intro e; injection e with e; have := hb.size; omega
/-- What records answers: a list, its elements and itself in new blocks. -/
def NewL (w : World) (base : Nat) (v : Value) (ls : List Bs) : Prop := ListF w (fun k => base ≤ k ∧ k < w.heap.size) v ls
theorem ri_list {R : List Bs} (h : Ri w wr v ss) (hR : ss.map (·.l) = R) : NewL wr w.heap.size v R := by
  obtain ⟨a, c, rfl, h1, h2, h3, h4⟩ := owns_row encV_len h.own
  refine ⟨a, c, ss, rfl, h1, h2, fun e => ⟨by have := h3 e; omega, h3 e⟩, h4, fun s hs => (h.el s hs).1, hR, fun q hq => ?_, fun s hs q hq => ⟨((h.el s hs).2 q hq).1, ((h.el s hs).2 q hq).2.1⟩⟩
  subst hq
  exact World.ownsRow.lt h.own q.block rfl

/-! ### Where a log goes on -/

theorem flat_drop {L : List Sec} (h32 : ∀ c ∈ L, c.length = 32) : ∀ k, L.flatten.drop (32 * k) = (L.drop k).flatten := by
  induction L with
  | nil => intro k; simp
  | cons c L ih =>
    intro k
    have hc := h32 c (by simp)
    cases k with
    | zero => simp
    | succ k =>
      rw [List.flatten_cons, show 32 * (k + 1) = c.length + 32 * k by omega, List.drop_append, List.drop_eq_nil_of_le (Nat.le_add_right _ _), List.nil_append, Nat.add_sub_cancel_left, ih (fun x hx => h32 x (by simp [hx])) k]
      rfl
theorem run_tail (b o n c lo : Nat) (z : Int) (hz : z = (lo : Int)) (h1 : lo ≤ n) (h2 : n ≤ c) (w : World) (l : Bs) (hl : l.length = n) (hr : RowB w (some ⟨b, o, none⟩) l) :
    ∃ X, (Instr.sliceAt 27 (.slice (some ⟨b, o, none⟩) n c) (some (.int .i64 z)) none none).run Try.prog w = .ok (.slice (some ⟨b, X, none⟩) (n - lo) (c - lo)) w ∧ RowB w (some ⟨b, X, none⟩) (l.drop lo) := by
  subst hz
  by_cases h : c = lo
  · refine ⟨o, ?_, .inl (List.drop_eq_nil_of_le (by omega))⟩
    simp [go_sem]
    rw [if_pos (show lo ≤ n by omega), if_pos h]
  · refine ⟨o + lo, ?_, by have := row_drop hr lo; rw [Nat.mul_one] at this; exact this⟩
    simp [go_sem]
    rw [if_pos (show lo ≤ n by omega), if_neg h]
/-- What holds at the label. -/
def AtRec (w : World) (lv : Value) (E Q f0 : Nat) (L : List Sec) (a' : Act) (w' : World) : Prop :=
  ∃ (v : Value) (ss : List Sv) (W : List Bs) (f : Nat) (u8 u9 u10 u11 u12 u13 u14 u15 u16 u17 u18 u19 u20 u21 u22 u23 u24 u25 u26 u27 u28 u29 u30 u31 u32 u33 u34 u35 u36 u37 u38 u39 u40 u41 u42 u43 u44 u45 u46 u47 u48 : Value), a' = { tmps := #[lv, .int .i64 (E : Nat), .int .i64 (Q : Nat), undef, undef, undef, v, .int .i64 (span W : Nat), u8, u9, u10, u11, u12, u13, u14, u15, u16, u17, u18, u19, u20, u21, u22, u23, u24, u25, u26, u27, u28, u29, u30, u31, u32, u33, u34, u35, u36, u37, u38, u39, u40, u41, u42, u43, u44, u45, u46, u47, u48], defers := [] } ∧
    Ri w w' v ss ∧ ss.map (·.l) = W ∧ span W ≤ L.length ∧ W.length ≤ span W ∧ f0 = f + W.length ∧ recs E f0 Q L = W ++ recs E f (Q + W.length) (L.drop (span W))
def secsAt (a : Act) : Nat := (intOf (a.tmps.getD 7 undef)).toNat
theorem recs_some {E f q e q' k : Nat} {b : Bs} {L : List Sec} (h : unpackB L.flatten = some (e, q', b, k)) (he : e = E) (hq : q' = q + 1) : recs E (f + 1) q L = b :: recs E f (q + 1) (L.drop k) := by
  simp only [recs, h]
  rw [if_pos ⟨he, hq⟩]
theorem recs_none {E f q : Nat} {L : List Sec} (h : ∀ e q' b k, unpackB L.flatten = some (e, q', b, k) → ¬ (e = E ∧ q' = q + 1)) : recs E f q L = [] := by
  cases f with
  | zero => rfl
  | succ f =>
    simp only [recs]
    cases hu : unpackB L.flatten with
    | none => rfl
    | some x =>
      obtain ⟨e, q', b, k⟩ := x
      simp only
      rw [if_neg (h e q' b k hu)]
theorem info_sl : (Try.prog.info? 27).map (fun i => (i.zero, i.size, i.bytes)) = some (some (.slice none 0 0), 1, 24) := by kernel_rfl

set_option maxHeartbeats 8000000 in
theorem jrecs_any (hP : Frm.Prog) (L : List Sec) (h32 : ∀ c ∈ L, c.length = 32) (hL : L.length ≤ 100) (h1 : 0 < L.length) (aa : Option Addr) (len cap : Nat) (w : World) (hA : Arg w aa len cap L.flatten) (E Q f0 : Nat) (hE : E < 4294967296) (hQ : Q < 4294967296) (hf : L.length < f0) :
    Calls Try.prog 26 #[.slice aa len cap, .int .i64 (E : Nat), .int .i64 (Q : Nat)] w fun e w' => ∃ v, e = .returned (.tuple #[v, .int .i64 (span (recs E f0 Q L) : Nat)]) ∧ NewL w' w.heap.size v (recs E f0 Q L) ∧ Below w.heap.size w w' := by
  have hlen : len = 32 * L.length := by rw [← hA.len, flat_length32 _ h32]
  obtain ⟨b, o, rfl⟩ := row_at hA.row (by rw [hA.len]; omega)
  have hcap := hA.cap
  have HA := Lib.hid (And.intro hA (And.intro h32 hlen))
  clear hA h32
  go_enter Try.func26, Try.ntmps26
  go_wp2_with fail
  refine wp_fall (AtRec w (.slice (some ⟨b, o, none⟩) len cap) E Q f0 L) (fun a _ => L.length - secsAt a) rfl ?_ ?_
  · rintro a' wr ⟨v, ss, W, f, u8, u9, u10, u11, u12, u13, u14, u15, u16, u17, u18, u19, u20, u21, u22, u23, u24, u25, u26, u27, u28, u29, u30, u31, u32, u33, u34, u35, u36, u37, u38, u39, u40, u41, u42, u43, u44, u45, u46, u47, u48, rfl, hri, hmap, hsp, hWs, hfu, hrec⟩
    have h7 : secsAt { tmps := #[.slice (some ⟨b, o, none⟩) len cap, .int .i64 (E : Nat), .int .i64 (Q : Nat), undef, undef, undef, v, .int .i64 (span W : Nat), u8, u9, u10, u11, u12, u13, u14, u15, u16, u17, u18, u19, u20, u21, u22, u23, u24, u25, u26, u27, u28, u29, u30, u31, u32, u33, u34, u35, u36, u37, u38, u39, u40, u41, u42, u43, u44, u45, u46, u47, u48], defers := [] } = span W := by simp [secsAt, intOf]
    rw [h7]
    clear h7
    have hrow := row_keep encB_len HA.out.1.row hri.below
    obtain ⟨X, hsl, hrw⟩ := run_tail b o len cap (32 * span W) ((span W : Int) * 32) (by omega) (by omega) hcap wr L.flatten HA.out.1.len hrow
    rw [flat_drop HA.out.2.1] at hrw
    obtain ⟨k, hk⟩ : ∃ k, k = span W := ⟨_, rfl⟩
    rw [← hk] at hsl hrw hsp hWs hrec ⊢
    obtain ⟨a6, c6, rfl, g1, g2, g3, g4⟩ := owns_row encV_len hri.own
    obtain ⟨n6, hn6⟩ : ∃ n, n = ss.length := ⟨_, rfl⟩
    have hn6W : n6 = W.length := by rw [hn6, ← hmap, List.length_map]
    rw [← hn6] at hri ⊢
    have HR := Lib.hid (And.intro hri (And.intro hmap (And.intro hk (And.intro hn6 (And.intro hrec hfu)))))
    have hAt : Arg wr (some ⟨b, X, none⟩) (len - 32 * k) (cap - 32 * k) (L.drop k).flatten := ⟨by rw [flat_length32 _ (fun c hc => HA.out.2.1 c (List.mem_of_mem_drop hc)), List.length_drop]; omega, by omega, by have := HA.out.1.max; omega, (fun h => by cases h), hrw⟩
    have HAt := Lib.hid hAt
    have hn100 : n6 ≤ 100 := by omega
    obtain ⟨tl, htl⟩ : ∃ t, t = len - 32 * k := ⟨_, rfl⟩
    obtain ⟨tc, htc⟩ : ∃ t, t = cap - 32 * k := ⟨_, rfl⟩
    rw [← htl, ← htc] at hsl HAt
    have HTl := Lib.hid (show tl ≤ 4000 by omega)
    have HNW := Lib.hid (And.intro hn6W hlen)
    clear hri hmap hk hn6 hrec hfu hrw hrow hAt g1 g2 g3 g4 htl htc hn6W hlen
    go_wp2_with fail
    clear hsl
    refine (hP.unpack (some ⟨b, X, none⟩) tl tc (L.drop k).flatten wr HAt.out HTl.out).mono ?_
    rintro e w3 ⟨v3, rfl, hn3, hb3⟩
    have hri3 := ri_keep HR.out.1 hb3
    have hlt6 := World.ownsRow.lt HR.out.1.own
    rcases eq_opt (unpackB (L.drop k).flatten) with hu | ⟨⟨e, q, bs, kk⟩, hu⟩
    · rw [ansU_none hu]
      have hend : recs E f0 Q L = W := by rw [HR.out.2.2.2.2.1, recs_none (fun e q' b k h => by rw [hu] at h; cases h), List.append_nil]
      have HX := Lib.hid (And.intro hri3 (And.intro hend HR.out.2.1))
      have HK := Lib.hid HR.out.2.2.1
      clear hn3 hb3 hri3 hu hend HR HAt HTl hlt6
      go_wp2_with fail
      simp only [jumps_ret]
      go_ret2
      rw [HX.out.2.1]
      exact ⟨_, by rw [HK.out]; rfl, ri_list HX.out.1 HX.out.2.2, HX.out.1.below⟩
    · rw [ansU_some hu] at hn3 ⊢
      have hn3' : NewB w3 wr.heap.size v3 bs := hn3
      obtain ⟨a3, c3, rfl, r1, r2, r3, r4, r5⟩ := hn3'
      obtain ⟨u1, u2, u3, u4, u5, _⟩ := unpack_some hu
      have hfl : (L.drop k).flatten.length = 32 * (L.length - k) := by rw [flat_length32 _ (fun c hc => HA.out.2.1 c (List.mem_of_mem_drop hc)), List.length_drop]
      have hsec := secs_pos bs.length
      have hn6W := HNW.out.1
      by_cases hyes : e = E ∧ q = Q + n6 + 1
      · obtain ⟨rfl, rfl⟩ := hyes
        obtain ⟨f', hf'⟩ : ∃ f', f = f' + 1 := ⟨f - 1, by have := HR.out.2.2.2.2.2; omega⟩
        have hrec' : recs e f0 Q L = (W ++ [bs]) ++ recs e f' (Q + (W ++ [bs]).length) (L.drop (k + kk)) := by
          rw [HR.out.2.2.2.2.1, hf', recs_some hu rfl (by omega), List.drop_drop, List.append_assoc, List.length_append, List.length_singleton, Nat.add_assoc]
          rfl
        have hfu' : f0 = f' + (W ++ [bs]).length := by rw [List.length_append, List.length_singleton]; have := HR.out.2.2.2.2.2; omega
        have hspan : span (W ++ [bs]) = k + kk := by rw [span_append, HR.out.2.2.1, u4]; simp [span]
        have hmap' : (ss ++ [(⟨a3, bs.length, c3, bs⟩ : Sv)]).map (·.l) = W ++ [bs] := by rw [List.map_append, HR.out.2.1]; rfl
        have hown := owns_alloc hri3.own (Obj.cells #[Value.slice a3 bs.length c3] 27)
        have hrw : Kit.Row encV 1 (w3.alloc (Obj.cells #[Value.slice a3 bs.length c3] 27)) (some ⟨w3.heap.size, 0, none⟩) [⟨a3, bs.length, c3, bs⟩] := Kit.row_new encV_len w3 [⟨a3, bs.length, c3, bs⟩] _ _ _ rfl rfl
        have h63 : ss.length + 1 ≤ maxLen := by rw [← HR.out.2.2.2.1]; unfold maxLen; omega
        have hby : (ss.length + 1) * 24 ≤ 140737488355328 := by rw [← HR.out.2.2.2.1]; omega
        have hbs : w.heap.size ≤ (w3.alloc (Obj.cells #[Value.slice a3 bs.length c3] 27)).heap.size := Nat.le_trans hri3.below.size (by simp)
        have HT9 := Lib.hid (fun (v9 : Value) (w9 : World) ho9 hg9 hw9 => ri_push (x := ⟨a3, bs.length, c3, bs⟩) (v9 := v9) (w9 := w9) (o := Obj.cells #[Value.slice a3 bs.length c3] 27) hri3 ⟨rfl, r1, r2, r3, r4⟩ (fun q hq => ⟨Nat.le_trans HR.out.1.below.size (r5 q hq).1, (r5 q hq).2, fun e => by have := (hlt6 _ e).2; have := (r5 q hq).1; omega⟩) ho9 hg9 hw9)
        have HA9 := Lib.hid (And.intro hown (And.intro hrw (And.intro h63 (And.intro hby hbs))))
        have HX := Lib.hid (And.intro hrec' (And.intro hfu' (And.intro hspan hmap')))
        have hle : k + kk ≤ L.length := by omega
        have hkk : 0 < kk := by omega
        have HWl := Lib.hid (show (W ++ [bs]).length ≤ k + kk by rw [List.length_append, List.length_singleton]; omega)
        have hqi : ((Q + n6 + 1 : Nat) : Int) = (Q : Int) + (n6 : Int) + 1 := by omega
        rw [hqi]
        obtain ⟨nb, hnb⟩ : ∃ nb, nb = bs.length := ⟨_, rfl⟩
        rw [← hnb] at HA9 HT9 HX ⊢
        clear hn3 hb3 hri3 r1 r2 r3 r4 r5 u1 u2 u3 u4 u5 hfl hsec hu hown hrw h63 hby hbs hrec' hfu' hspan hmap' HR HAt HTl hlt6 hnb hqi hn6W hf'
        go_wp2_with (first | (at_builtin; refine Two.append_apart encV_len Nat.zero_lt_one encV_one rfl (.tmp 40) (.tmp 42) 29 27 rfl Try.underlying29 (.slice none 0 0) 24 info_sl rfl w.heap.size (.slice a6 n6 c6) ss rfl HA9.out.1 (some ⟨w3.heap.size, 0, none⟩) 1 1 [⟨a3, nb, c3, bs⟩] rfl rfl HA9.out.2.1 (fun h => by cases h) HA9.out.2.2.1 HA9.out.2.2.2.1 HA9.out.2.2.2.2 ?_; intro v9 w9 ho9 hg9 hw9; have HP := Lib.hid (HT9.out v9 w9 ho9 hg9 hw9); clear ho9 hg9 hw9 HA9 HT9) | fail)
        go_step3
        refine ⟨rfl, ⟨v9, _, W ++ [bs], f', _, _, _, _, _, _, _, _, _, _, _, _, _, _, _, _, _, _, _, _, _, _, _, _, _, _, _, _, _, _, _, _, _, _, _, _, _, _, _, _, _, by rw [HX.out.2.2.1]; rfl, HP.out, HX.out.2.2.2, by rw [HX.out.2.2.1]; exact hle, by rw [HX.out.2.2.1]; exact HWl.out, HX.out.2.1, by rw [HX.out.2.2.1]; exact HX.out.1⟩, ?_⟩
        simp only [secsAt, intOf]
        simp
        omega
      · have hend : recs E f0 Q L = W := by
          rw [HR.out.2.2.2.2.1, recs_none (fun e' q' b' k' h => by rw [hu] at h; injection h with h; injection h with e1 h; injection h with e2 h; subst e1 e2; intro hh; exact hyes ⟨hh.1, by omega⟩), List.append_nil]
        have HX := Lib.hid (And.intro hri3 (And.intro hend HR.out.2.1))
        have HK := Lib.hid HR.out.2.2.1
        have hor : ¬ (e : Int) = E ∨ ((e : Int) = E ∧ ¬ (q : Int) = (Q : Int) + (n6 : Int) + 1) := by omega
        clear hn3 hb3 hri3 hu hend HR HAt HTl hlt6 r1 r2 r3 r4 r5 u1 u2 u3 u4 u5 hfl hsec hyes hn6W
        rcases hor with ho | ⟨ho, ho2⟩
        all_goals
          go_wp2_with fail
          simp only [jumps_ret]
          go_ret2
          rw [HX.out.2.1]
          exact ⟨_, by rw [HK.out]; rfl, ri_list HX.out.1 HX.out.2.2, HX.out.1.below⟩
  · intro hp0
    have HP0 := Lib.hid hp0
    clear hp0
    go_wp2
    go_step3
    rename_i hK
    refine hK _ _ (HP0.out _ _ ?_)
    exact ⟨.slice none 0 0, [], [], f0, _, _, _, _, _, _, _, _, _, _, _, _, _, _, _, _, _, _, _, _, _, _, _, _, _, _, _, _, _, _, _, _, _, _, _, _, _, _, _, _, _, rfl, ⟨owns_nil _ _ _, Below.refl _ _, fun s hs => by cases hs⟩, rfl, Nat.zero_le _, Nat.le_refl _, rfl, rfl⟩
end Go.Proofs.Ytdgfoldobofgoaa.Jrn
/- Journal: the landed save and Format: a checkpoint is written, and flushed. -/
namespace Go.Proofs.Ytdgfoldobofgoaa.Jrn
set_option maxRecDepth 100000
open Go.RowKit
open Go.Sort
open Kit
open Oct
open Chk
open Frm
open Foot
open Dsk (Sec DS mix mix_at mix_length mix_whole mix_none RdB)
set_option linter.unusedVariables false
variable {D : World → (Nat → Prop) → Nat → DS → Prop}
variable {w w' : World} {F G : Nat → Prop} {p pj : Nat} {s t : DS} {j : JS}

/-- What save does: the error, and the disk behind it. -/
inductive SaveR (s : DS) (slot place epoch seq : Nat) (b : Bs) : Nat → DS → Prop
  | big (h : 4294967295 < epoch) : SaveR s slot place epoch seq b 2 s
  | full (h : epoch ≤ 4294967295) (h2 : slot < secs b.length) : SaveR s slot place epoch seq b 5 s
  | done (s' : DS) (h : epoch ≤ 4294967295) (h2 : secs b.length ≤ slot) (hs : Sure s s' (over s.now (place * slot) (secsB epoch seq b))) : SaveR s slot place epoch seq b 0 s'
  | down (s' : DS) (h : epoch ≤ 4294967295) (h2 : secs b.length ≤ slot) (hs : Half s s' (place * slot) (secsB epoch seq b)) : SaveR s slot place epoch seq b 10 s'
theorem put_half {a : Nat} {cs : List Sec} (h : Put s t a cs) (hl : a + cs.length ≤ s.now.length) (hf : t.fuse = 0) : Half s t a cs :=
  ⟨h.good, by rw [h.now, over_length hl], fun i => .inr (by rw [h.now]), h.ok, fun e => by have := h.fuse e; omega⟩
theorem flush_is (s : DS) : (s.fuse = 0 ∧ s.flush = (10, s)) ∨ (s.fuse ≠ 0 ∧ s.flush.1 = 0 ∧ s.flush.2.good = s.now ∧ s.flush.2.now = s.now ∧ s.flush.2.fuse = Dsk.burnt s.fuse) := by
  by_cases hf : s.fuse = 0
  · left; refine ⟨hf, ?_⟩; unfold DS.flush; rw [if_pos hf]
  · right; refine ⟨hf, ?_⟩; unfold DS.flush; rw [if_neg hf]; exact ⟨rfl, rfl, rfl, rfl⟩
theorem put_sure {a : Nat} {cs : List Sec} (h : Put s t a cs) (h1 : t.flush.2.good = t.now) (h2 : t.flush.2.now = t.now) (h3 : t.flush.2.fuse = Dsk.burnt t.fuse) (ok : t.flush.2.Ok) : Sure s t.flush.2 (over s.now a cs) :=
  ⟨by rw [h1, h.now], by rw [h2, h.now], ok, fun e => by rw [h3, h.fuse e]; rfl⟩
theorem secsI_is {n : Nat} (h : n ≤ 65535) : secsI (n : Int) = secs n := by unfold secsI; rw [if_neg (by omega), Int.toNat_natCast]
theorem packA_is {e q : Nat} (he : e < 4294967296) (hq : q < 4294967296) (l : Bs) : packA (e : Int) (q : Int) l = (packB e q l, 0) := by
  unfold packA
  rw [if_pos ⟨⟨by omega, by omega⟩, by omega, by omega⟩, Int.toNat_natCast, Int.toNat_natCast]

set_option maxHeartbeats 8000000 in
theorem jsave_any (hD : Dsk.Prog D) (hP : Frm.Prog) (h : D w F p s) (hF : ∀ k, F k → k < w.heap.size) (slot place epoch seq : Nat) (h1 : 1 ≤ slot) (h2 : 2 * slot < s.good.length) (hp : place ≤ 1) (he : epoch ≤ 4294967296) (hq : seq < 4294967296)
    (aa : Option Addr) (len cap : Nat) (b : Bs) (hA : Arg w aa len cap b) (hl : len ≤ 3000) :
    Calls Try.prog 24 #[.agg #[.int .i64 (place : Nat), .int .i64 (epoch : Nat), .int .i64 (seq : Nat), .slice aa len cap], .pointer (some ⟨p, 0, none⟩), .int .i64 (slot : Nat)] w fun e w' => ∃ n s', e = .returned (.int .i64 (n : Nat)) ∧ SaveR s slot place epoch seq b n s' ∧ D w' (More F w w') p s' ∧ Chg F w w' := by
  have hok := hD.ok h
  have hsm := hok.small
  have hnl := hok.len
  have hlb := hA.len
  have hb1 := below_alloc w (.cells #[.int .i64 (place : Nat), .int .i64 (epoch : Nat), .int .i64 (seq : Nat), .slice aa len cap] 53)
  have hblk := Arr.blk_new w _ 53 [.int .i64 (place : Nat), .int .i64 (epoch : Nat), .int .i64 (seq : Nat), .slice aa len cap] rfl
  obtain ⟨w1, hw1⟩ : ∃ x, x = w.alloc (.cells #[.int .i64 (place : Nat), .int .i64 (epoch : Nat), .int .i64 (seq : Nat), .slice aa len cap] 53) := ⟨_, rfl⟩
  replace hblk : Arr.Blk w1 w.heap.size 53 [.int .i64 (place : Nat), .int .i64 (epoch : Nat), .int .i64 (seq : Nat), .slice aa len cap] := by rw [hw1]; exact hblk
  rw [← hw1] at hb1
  have HW1 := Lib.hid hw1
  have HD := Lib.hid (And.intro h (And.intro hF (And.intro hok (And.intro hA (And.intro hblk hb1)))))
  have c0 := Arr.blk_cell hblk 0
  have c1 := Arr.blk_cell hblk 1
  have c2 := Arr.blk_cell hblk 2
  have c3 := Arr.blk_cell hblk 3
  simp only [List.getElem?_cons_zero, List.getElem?_cons_succ] at c0 c1 c2 c3
  have HC := Lib.hid (And.intro c0 (And.intro c1 (And.intro c2 c3)))
  have hend : ∀ (wx : World), Below w.heap.size w wx → D wx F p s → D wx (More F w wx) p s ∧ Chg F w wx := fun wx hb hd => ⟨hD.mono hd fun k hk => .inl hk, new_chg hb F⟩
  have HEnd := Lib.hid hend
  clear h hF hok hA hblk hb1 hw1 hend
  have hli : ¬ (len : Int) > 65535 := by omega
  have HNl := Lib.hid (And.intro hnl hlb)
  clear hnl hlb
  by_cases hbig : 4294967295 < epoch
  · have hbi : (4294967295 : Int) < epoch := by omega
    have HB := Lib.hid hbig
    clear hbig
    go_enter Try.func24, Try.ntmps24
    go_upto_region 1 with fail
    rw [← HW1.out]
    go_wp2_with fail
    go_ret
    obtain ⟨h8, h9⟩ := HEnd.out w1 HD.out.2.2.2.2.2 (d_keep hD HD.out.1 HD.out.2.2.2.2.2)
    first | exact ⟨2, s, rfl, .big HB.out, h8, h9⟩ | exact ⟨2, rfl, s, .big HB.out, h8, h9⟩
  · have hbi : ¬ (4294967295 : Int) < epoch := by omega
    have he2 : epoch ≤ 4294967295 := by omega
    have HB := Lib.hid he2
    clear hbig he2 he
    go_enter Try.func24, Try.ntmps24
    go_upto_region 1 with fail
    rw [← HW1.out]
    go_wp2_with fail
    refine (hP.sectors (len : Nat) w1 ⟨by omega, by omega⟩).mono ?_
    rintro e w2 ⟨rfl, hb⟩
    rw [secsI_is (by omega)]
    have hB2 := below_keep HD.out.2.2.2.2.2 hb
    have d1 := cell_keep hb c1
    have d2 := cell_keep hb c2
    have d3 := cell_keep hb c3
    have HB2 := Lib.hid (And.intro hB2 hb)
    have hs2 : secs len ≤ 3000 := by unfold secs; omega
    obtain ⟨K, hK⟩ : ∃ K, K = secs len := ⟨_, rfl⟩
    rw [← hK] at hs2 ⊢
    have HK := Lib.hid (show K = secs b.length by rw [hK, HNl.out.2])
    clear hB2 hb hK c0 c1 c2 c3
    by_cases hfull : slot < K
    · have hfi : (slot : Int) < K := by omega
      have HFu := Lib.hid hfull
      clear hfull
      go_wp2_with fail
      go_ret
      obtain ⟨h8, h9⟩ := HEnd.out w2 HB2.out.1 (d_keep hD (d_keep hD HD.out.1 HD.out.2.2.2.2.2) HB2.out.2)
      first | exact ⟨5, s, rfl, .full HB.out (by rw [← HK.out]; exact HFu.out), h8, h9⟩ | exact ⟨5, rfl, s, .full HB.out (by rw [← HK.out]; exact HFu.out), h8, h9⟩
    · have hfi : ¬ (slot : Int) < K := by omega
      have HFu := Lib.hid (show K ≤ slot by omega)
      clear hfull
      go_wp2_with fail
      refine (hP.pack (epoch : Nat) (seq : Nat) aa len cap b w2 ⟨by omega, by have := HB.out; omega⟩ ⟨by omega, by omega⟩ (arg_keep HD.out.2.2.2.1 HB2.out.1) hl).mono ?_
      rintro e w3 ⟨v3, rfl, hn3, hb3⟩
      rw [packA_is (by have := HB.out; omega) hq] at hn3 ⊢
      replace hn3 : NewB w3 w2.heap.size v3 (packB epoch seq b) := hn3
      obtain ⟨a3, m3, rfl, r1, r2, r3, r4, hq3⟩ := hn3
      have hA3 : Arg w3 a3 (packB epoch seq b).length m3 (packB epoch seq b) := ⟨rfl, r1, r2, r3, r4⟩
      have e0 := cell_keep HB2.out.2 HC.out.1
      have d0 := cell_keep hb3 e0
      obtain ⟨A0, hA0⟩ : ∃ x, x = place * slot := ⟨_, rfl⟩
      have hi0 : (place : Int) * (slot : Int) = (A0 : Nat) := by rw [hA0]; exact (Int.natCast_mul _ _).symm
      have hA0s : A0 ≤ slot := by
        have := Nat.mul_le_mul_right slot hp
        omega
      have hA3' : Arg w3 a3 (packB epoch seq b).length m3 (secsB epoch seq b).flatten := by rw [secsB_flat]; exact hA3
      have H3 := Lib.hid (And.intro hA3' (And.intro (below_keep HB2.out.1 hb3) (And.intro (show ∀ q, a3 = some q → ¬ F q.block ∧ q.block < w3.heap.size from fun q hq => ⟨fun hf => by have := HD.out.2.1 _ hf; have := (hq3 q hq).1; have := HB2.out.1.size; omega, (hq3 q hq).2⟩) (And.intro hA0 (d_keep hD (d_keep hD (d_keep hD HD.out.1 HD.out.2.2.2.2.2) HB2.out.2) hb3)))))
      obtain ⟨n3, hn3l⟩ : ∃ n, n = (packB epoch seq b).length := ⟨_, rfl⟩
      rw [← hn3l] at H3 ⊢
      clear r1 r2 r3 r4 hA3 hA3' hq3 hb3 e0 hA0 d1 d2 d3 hn3l
      go_wp2_with fail
      refine (jwrite_any hD H3.out.2.2.2.2 (fun k hk => Nat.lt_of_lt_of_le (HD.out.2.1 k hk) H3.out.2.1.size) A0 (secsB epoch seq b) secsB_32 (by rw [secsB_length, ← HK.out]; have := HFu.out; omega) a3 n3 m3 H3.out.1 H3.out.2.2.1).mono ?_
      rintro e w4 ⟨bo, t, rfl, hres, hd4, hC4⟩
      have hC04 : Chg F w w4 := chg_trans (new_chg H3.out.2.1 F) hC4 fun x hx => .inl hx
      have hsec : secs b.length ≤ slot := by rw [← HK.out]; exact HFu.out
      rcases hres with ⟨rfl, hput⟩ | ⟨rfl, hhalf⟩
      · have H4 := Lib.hid (And.intro hput (And.intro hd4 (And.intro hC04 hsec)))
        have hlt4 : ∀ k, More F w3 w4 k → k < w4.heap.size := fun k hk => more_lt (fun k hk => Nat.lt_of_lt_of_le (HD.out.2.1 k hk) H3.out.2.1.size) hC4.size hk
        have HL4 := Lib.hid (And.intro hlt4 hC4)
        clear hput hd4 hC4 hC04 hsec hlt4 hi0
        go_wp2_with fail
        refine (hD.flush H4.out.2.1 HL4.out.1).mono ?_
        rintro e w5 ⟨rfl, hd5, hC5⟩
        have hC05 : Chg F w w5 := chg_trans H4.out.2.2.1 hC5 fun x hx => hx.elim .inl fun h => .inr (Nat.le_trans H3.out.2.1.size h.1)
        have hmo : ∀ k, More (More F w3 w4) w4 w5 k → More F w w5 k := fun k hk => by
          rcases hk with (hk | hk) | hk
          · exact .inl hk
          · exact .inr ⟨Nat.le_trans H3.out.2.1.size hk.1, Nat.lt_of_lt_of_le hk.2 hC5.size⟩
          · exact .inr ⟨Nat.le_trans H4.out.2.2.1.size hk.1, hk.2⟩
        have hd5' := hD.mono hd5 hmo
        rcases flush_is t with ⟨hf, he⟩ | ⟨hf, g1, g2, g3, g4⟩
        · rw [he] at hd5' ⊢
          have H5 := Lib.hid (And.intro hd5' (And.intro hC05 hf))
          clear hd5 hd5' hC5 hC05 hmo hf he
          go_wp2_with fail
          go_ret
          first | exact ⟨10, t, rfl, .down t HB.out H4.out.2.2.2 (by rw [← H3.out.2.2.2.1]; exact put_half H4.out.1 (by rw [secsB_length, ← HK.out, HNl.out.1]; have := HFu.out; omega) H5.out.2.2), H5.out.1, H5.out.2.1⟩ | exact ⟨10, rfl, t, .down t HB.out H4.out.2.2.2 (by rw [← H3.out.2.2.2.1]; exact put_half H4.out.1 (by rw [secsB_length, ← HK.out, HNl.out.1]; have := HFu.out; omega) H5.out.2.2), H5.out.1, H5.out.2.1⟩
        · rw [g1]
          have H5 := Lib.hid (And.intro hd5' (And.intro hC05 (And.intro g2 (And.intro g3 (And.intro g4 (hD.ok hd5))))))
          clear hd5 hd5' hC5 hC05 hmo hf g1 g2 g3 g4
          go_wp2_with fail
          go_ret
          first | exact ⟨0, _, rfl, .done _ HB.out H4.out.2.2.2 (by rw [← H3.out.2.2.2.1]; exact put_sure H4.out.1 H5.out.2.2.1 H5.out.2.2.2.1 H5.out.2.2.2.2.1 H5.out.2.2.2.2.2), H5.out.1, H5.out.2.1⟩ | exact ⟨0, rfl, _, .done _ HB.out H4.out.2.2.2 (by rw [← H3.out.2.2.2.1]; exact put_sure H4.out.1 H5.out.2.2.1 H5.out.2.2.2.1 H5.out.2.2.2.2.1 H5.out.2.2.2.2.2), H5.out.1, H5.out.2.1⟩
      · have H4 := Lib.hid (And.intro hhalf (And.intro (show D w4 (More F w w4) p t from hD.mono hd4 fun k hk => hk.imp id fun h => ⟨Nat.le_trans H3.out.2.1.size h.1, h.2⟩) (And.intro hC04 hsec)))
        clear hhalf hd4 hC4 hC04 hsec hi0
        go_wp2_with fail
        go_ret
        first | exact ⟨10, t, rfl, .down t HB.out H4.out.2.2.2 (by rw [← H3.out.2.2.2.1]; exact H4.out.1), H4.out.2.1, H4.out.2.2.1⟩ | exact ⟨10, rfl, t, .down t HB.out H4.out.2.2.2 (by rw [← H3.out.2.2.2.1]; exact H4.out.1), H4.out.2.1, H4.out.2.2.1⟩

/-! ### The landed Format -/

theorem save_format {slot : Int} {n : Nat} {s' : DS} {b : Bs} (hpo : partOk s.good.length slot) (hb : b.length ≤ 65535) (h : SaveR s slot.toNat 0 1 0 b n s') : FormatR s slot b n s' := by
  have hz : 0 * slot.toNat = 0 := Nat.zero_mul _
  have hs := hpo.1
  cases h with
  | big h => omega
  | full h h2 => exact .full hpo hb (by omega)
  | done s' h h2 hs => rw [hz] at hs; exact .done s' hpo hb (by omega) hs
  | down s' h h2 hs => rw [hz] at hs; exact .down s' hpo hb (by omega) hs
set_option maxHeartbeats 4000000 in
theorem jformat_any (hD : Dsk.Prog D) (hP : Frm.Prog) (h : D w F p s) (hF : ∀ k, F k → k < w.heap.size) (slot : Int) (hs : inI slot) (aa : Option Addr) (len cap : Nat) (b : Bs) (hA : Arg w aa len cap b) (hl : len ≤ 3000) :
    Calls Try.prog 8 #[.pointer (some ⟨p, 0, none⟩), .int .i64 slot, .slice aa len cap] w fun e w' => ∃ n s', e = .returned (.int .i64 (n : Nat)) ∧ FormatR s slot b n s' ∧ D w' (More F w w') p s' ∧ Chg F w w' := by
  have HD := Lib.hid (And.intro h (And.intro hF (And.intro hA (show b.length ≤ 65535 by rw [hA.len]; omega))))
  have HPl := Lib.hid (places_any hD h slot hs)
  clear h hF hA
  by_cases hpo : partOk s.good.length slot
  · have HX := Lib.hid (And.intro hpo (decide_eq_true hpo))
    obtain ⟨sl, hsl⟩ : ∃ x, x = slot.toNat := ⟨_, rfl⟩
    have hsli : slot = (sl : Nat) := by have := hpo.1; omega
    have HS := Lib.hid (And.intro hsl (And.intro (show 1 ≤ sl by have := hpo.1; omega) (show 2 * sl < s.good.length by have := hpo.2; omega)))
    clear hpo hsl hs
    go_enter Try.func8, Try.ntmps8
    subst hsli
    go_wp2_with fail
    refine HPl.out.mono ?_
    rw [HX.out.2]
    rintro e w1 ⟨rfl, hb⟩
    have HB := Lib.hid hb
    clear hb
    go_wp2_with fail
    refine (jsave_any hD hP (d_keep hD HD.out.1 HB.out) (fun k hk => Nat.lt_of_lt_of_le (HD.out.2.1 k hk) HB.out.size) sl 0 1 0 HS.out.2.1 HS.out.2.2 (by omega) (by omega) (by omega) aa len cap b (arg_keep HD.out.2.2.1 HB.out) hl).mono ?_
    rintro e w2 ⟨n, s', rfl, hr, hd, hC⟩
    have hr' := save_format (slot := (sl : Nat)) HX.out.1 HD.out.2.2.2 (by rw [Int.toNat_natCast]; exact hr)
    have H2 := Lib.hid (And.intro hr' (And.intro (show D w2 (More F w w2) p s' from hD.mono hd fun k hk => hk.imp id fun h => ⟨Nat.le_trans HB.out.size h.1, h.2⟩) (chg_trans (new_chg HB.out F) hC fun x hx => .inl hx)))
    clear hr hr' hd hC
    go_wp2_with fail
    go_ret
    first | exact ⟨n, s', rfl, H2.out.1, H2.out.2.1, H2.out.2.2⟩ | exact ⟨n, rfl, s', H2.out.1, H2.out.2.1, H2.out.2.2⟩
  · have HX := Lib.hid (And.intro hpo (decide_eq_false hpo))
    clear hpo hs
    go_enter Try.func8, Try.ntmps8
    go_wp2_with fail
    refine HPl.out.mono ?_
    rw [HX.out.2]
    rintro e w1 ⟨rfl, hb⟩
    have HB := Lib.hid (And.intro (hD.mono (d_keep hD HD.out.1 hb) fun k (hk : F k) => (.inl hk : More F w w1 k)) (new_chg hb F))
    clear hb
    go_wp2_with fail
    go_ret
    first | exact ⟨1, s, rfl, .arg HX.out.1, HB.out.1, HB.out.2⟩ | exact ⟨1, rfl, s, .arg HX.out.1, HB.out.1, HB.out.2⟩
/-- A slot for which there is no room; no disk. -/
theorem jformat_arg (hD : Dsk.Prog D) (h : D w F p s) (slot : Int) (hs : inI slot) (aa : Option Addr) (len cap : Nat) (hpo : ¬ partOk s.good.length slot) :
    Calls Try.prog 8 #[.pointer (some ⟨p, 0, none⟩), .int .i64 slot, .slice aa len cap] w fun e w' => e = .returned (.int .i64 1) ∧ Below w.heap.size w w' := by
  have HPl := Lib.hid (places_any hD h slot hs)
  rw [decide_eq_false hpo] at HPl
  clear h hpo
  go_enter Try.func8, Try.ntmps8
  go_wp2_with fail
  refine HPl.out.mono ?_
  rintro e w1 ⟨rfl, hb⟩
  have HB := Lib.hid hb
  clear hb
  go_wp2_with fail
  go_ret
  exact ⟨rfl, HB.out⟩
/-- No disk has a size. -/
def NilSize : Prop := ∀ w : World, Calls Try.prog 22 #[.pointer none] w fun e w' => e = .returned (.int .i64 0) ∧ Below w.heap.size w w'
theorem places_nil (hN : NilSize) (slot : Int) (hs : inI slot) (w : World) : Calls Try.prog 23 #[.pointer none, .int .i64 slot] w fun e w' => e = .returned (.bool false) ∧ Below w.heap.size w w' := by
  by_cases h1 : 1 ≤ slot
  · have h2 : ¬ slot ≤ 0 := by omega
    go_enter Try.func23, Try.ntmps23
    go_wp2_with fail
    refine (hN w).mono ?_
    rintro e w1 ⟨rfl, hb⟩
    have HB := Lib.hid hb
    clear hb
    go_wp2_with fail
    go_ret
    exact ⟨by first | rfl | exact ret_bool (decide_eq_false (by omega)), HB.out⟩
  · go_enter Try.func23, Try.ntmps23
    go_wp2_with fail
    go_ret
    exact ⟨by first | rfl | exact ret_bool (decide_eq_false (by omega)), Below.refl _ _⟩
theorem jformat_nil (hN : NilSize) (slot : Int) (hs : inI slot) (aa : Option Addr) (len cap : Nat) (w : World) :
    Calls Try.prog 8 #[.pointer none, .int .i64 slot, .slice aa len cap] w fun e w' => e = .returned (.int .i64 1) ∧ Below w.heap.size w w' := by
  go_enter Try.func8, Try.ntmps8
  go_wp2_with fail
  refine (places_nil hN slot hs w).mono ?_
  rintro e w1 ⟨rfl, hb⟩
  have HB := Lib.hid hb
  clear hb
  go_wp2_with fail
  go_ret
  exact ⟨rfl, HB.out⟩
end Go.Proofs.Ytdgfoldobofgoaa.Jrn
/- Journal: the landed Open. -/
namespace Go.Proofs.Ytdgfoldobofgoaa.Jrn
set_option maxRecDepth 100000
open Go.RowKit
open Go.Sort
open Kit
open Oct
open Chk
open Frm
open Foot
open Dsk (Sec DS mix mix_at mix_length mix_whole mix_none RdB)
set_option linter.unusedVariables false
variable {D : World → (Nat → Prop) → Nat → DS → Prop}
variable {w w' : World} {F G : Nat → Prop} {p pj : Nat} {s t : DS} {j : JS}

theorem results_tmp4 {fn : Func} {t u v x : Tmp} (h : fn.results = #[.tmp t, .tmp u, .tmp v, .tmp x]) (tmps : Array Value) (P : Program) (w : World) :
    (results fn tmps).run P w = .ok (.tuple #[tmps.getD t undef, tmps.getD u undef, tmps.getD v undef, tmps.getD x undef]) w := by
  simp [results, h]
theorem run_ld_n {w : World} {a : Addr} {n : Nat} (h : w.cell? a = some (.int .i64 (n : Nat))) : (Instr.loadAt 3 (.pointer (some a))).run Try.prog w = .ok (.int .i64 (n : Nat)) w := by
  simp [go_sem, h]
theorem run_ld_svo {w : World} {a : Addr} {x : Option Addr} {n c : Nat} (h : w.cell? a = some (.slice x n c)) : (Instr.loadAt 27 (.pointer (some a))).run Try.prog w = .ok (.slice x n c) w := by
  simp [go_sem, h]
theorem run_ex2 (u v : Value) (i : Nat) (x : Value) (h : #[u, v][i]? = some x) (w : World) : (Instr.extract (.tuple #[u, v]) i).run Try.prog w = .ok x w := by
  match i, h with
  | 0, h => simp at h; subst h; simp [go_sem]
  | 1, h => simp at h; subst h; simp [go_sem]
theorem newL_le {base base' : Nat} {v : Value} {ls : List Bs} (h : NewL w base v ls) (hb : base' ≤ base) : NewL w base' v ls :=
  list_chg h (chg_refl (fun _ => False) w) (fun _ _ => id) fun k hk => ⟨Nat.le_trans hb hk.1, hk.2⟩
theorem newL_keep {base : Nat} {v : Value} {ls : List Bs} (h : NewL w base v ls) (hb : Below w.heap.size w w') : NewL w' base v ls :=
  list_chg h (new_chg hb (fun _ => False)) (fun _ _ => id) fun k hk => ⟨hk.1, Nat.lt_of_lt_of_le hk.2 hb.size⟩
def kNew (base : Nat) (l : Bs) : Rel.Kd Rel.Gr := ⟨fun w u => NewB w base u l, fun _ _ _ h hn => new_keep hn h⟩
def kLst (base : Nat) (R : List Bs) : Rel.Kd Rel.Gr := ⟨fun w u => NewL w base u R, fun _ _ _ h hn => newL_keep hn h⟩
def kRec (base : Nat) (R : List Bs) : Rel.Kd Rel.Gr := ⟨fun w u => ∃ v, u = .tuple #[v, .int .i64 (span R : Nat)] ∧ NewL w base v R, fun _ _ _ h ⟨v, e, hn⟩ => ⟨v, e, newL_keep hn h⟩⟩
theorem recs_fit (E : Nat) : ∀ (f q : Nat) (L : List Sec), (∀ x ∈ L, x.length = 32) → span (recs E f q L) ≤ L.length ∧ (recs E f q L).length ≤ span (recs E f q L)
  | 0, q, L, h => ⟨Nat.zero_le _, Nat.zero_le _⟩
  | f + 1, q, L, h => by
    unfold recs
    split
    · rename_i e q' b k hu
      split
      · obtain ⟨_, _, _, h4, h5, _⟩ := unpack_some hu
        rw [flat_length32 L h] at h5
        obtain ⟨ih, ih2⟩ := recs_fit E f (q + 1) (L.drop k) fun x hx => h x (List.mem_of_mem_drop hx)
        rw [List.length_drop] at ih
        have hs : span (b :: recs E f (q + 1) (L.drop k)) = secs b.length + span (recs E f (q + 1) (L.drop k)) := by simp [span]
        have := secs_pos b.length
        rw [hs, List.length_cons]
        omega
      · exact ⟨Nat.zero_le _, Nat.zero_le _⟩
    · exact ⟨Nat.zero_le _, Nat.zero_le _⟩
theorem part_all {c : List Sec} {a : Nat} : part c a c.length = c.drop a := by
  unfold part
  rw [List.take_of_length_le (by rw [List.length_drop]; exact Nat.le_refl _)]

theorem below_drewN (w : World) (n : Nat) : Below w.heap.size w (w.drewN n) := ⟨rfl, rfl, rfl, Nat.le_refl _, fun _ _ => rfl⟩

set_option maxHeartbeats 8000000 in
theorem jopen_any (hD : Dsk.Prog D) (hP : Frm.Prog) (h : D w F p s) (hF : ∀ k, F k → k < w.heap.size) (h100 : s.good.length ≤ 100) (slot : Int) (hs : inI slot) :
    Calls Try.prog 10 #[.pointer (some ⟨p, 0, none⟩), .int .i64 slot] w fun e w' => ∃ n r, OpenR s slot n r ∧ OpenE Jr w p n r e w' ∧ Below w.heap.size w w' := by
  have hok := hD.ok h
  have HD := Lib.hid (And.intro h (And.intro hok (And.intro hF h100)))
  have HPl := Lib.hid (places_any hD h slot hs)
  clear h hok hF h100
  by_cases hpo : partOk s.good.length slot
  · have HX := Lib.hid (And.intro hpo (decide_eq_true hpo))
    obtain ⟨sl, hsl⟩ : ∃ x, x = slot.toNat := ⟨_, rfl⟩
    have hsli : slot = (sl : Nat) := by have := hpo.1; omega
    have HS := Lib.hid (And.intro (show 1 ≤ sl by have := hpo.1; omega) (show 2 * sl < s.good.length by have := hpo.2; omega))
    have hsl2 : sl ≤ 100 := by have := HS.out.2; have := HD.out.2.2.2; omega
    clear hpo hsl hs
    go_enter Try.func10, Try.ntmps10
    subst hsli
    go_wp2_with fail
    refine HPl.out.mono ?_
    rw [HX.out.2]
    rintro e w1 ⟨rfl, hb⟩
    have HB := Lib.hid hb
    clear hb
    go_wp2_with fail
    refine (jpick_any hD hP (d_keep hD HD.out.1 HB.out) sl HS.out.1 HS.out.2 HD.out.2.2.2).mono ?_
    rintro e w2 ⟨hp, hb⟩
    rcases eq_opt (pick s.now sl) with ha | ⟨⟨P, E, Q, b⟩, ha⟩
    · rw [ha] at hp
      obtain rfl : e = _ := hp
      have HA := Lib.hid (And.intro ha (below_keep HB.out hb))
      clear ha hb
      go_wp2_with (first | (refine wpList_store_own rfl 53 (.tmp 8) (.tmp 20) rfl w2.heap.size zero4 rfl rfl zero4 53 (Arr.blk_new w2 _ _ zero4 rfl) info_ck rfl rfl ?_; intro w4 hblk hC hsz; have HC4 := Lib.hid (And.intro hC hsz); clear hblk hC hsz) | fail)
      refine bodyPost_ret (results_tmp4 rfl _ _ _) rfl ?_
      refine ⟨15, none, .lost HX.out.1 (by rw [Int.toNat_natCast]; exact HA.out.1), ⟨_, _, rfl, new_nil _ _, ⟨none, 0, [], rfl, Nat.le_refl _, Nat.zero_le _, (fun _ => ⟨rfl, rfl⟩), .inl rfl, (fun s hs => by cases hs), rfl⟩⟩, (below_keep HA.out.2 (below_alloc w2 (.cells zero4.toArray 53))).trans (chg_below HC4.out.1 (fun y hy => by have := HA.out.2.size; omega) (Nat.le_trans HA.out.2.size (by simp)))⟩
    · rw [ha] at hp
      obtain ⟨v, rfl, hn⟩ := hp
      obtain ⟨a3, c3, rfl, r1, r2, r3, r4, r5⟩ := hn
      obtain ⟨hp2, hE, hQ, hb6⟩ := pick_place ha
      have HN := Lib.hid (show NewB w2 w1.heap.size (.slice a3 b.length c3) b from ⟨a3, c3, rfl, r1, r2, r3, r4, r5⟩)
      have HA := Lib.hid (And.intro ha (And.intro (below_keep HB.out hb) (d_keep hD (d_keep hD HD.out.1 HB.out) hb)))
      have hB1 := HB.out.size
      have HB1 := Lib.hid hB1
      obtain ⟨nb, hnb⟩ : ∃ x, x = b.length := ⟨_, rfl⟩
      rw [← hnb] at HN ⊢
      have HNb := Lib.hid hnb
      obtain ⟨B, hB⟩ : ∃ x, x = w2.heap.size := ⟨_, rfl⟩
      have HBw := Lib.hid hB
      clear ha hb r1 r2 r3 r4 r5 hb6 hB1 hnb hB HPl
      go_upto_region 4 with (first | (refine wpList_store_own rfl 53 (.tmp 8) (.tmp 20) rfl w2.heap.size [.int .i64 (P : Nat), .int .i64 (E : Nat), .int .i64 (Q : Nat), .slice a3 nb c3] rfl rfl zero4 53 (Arr.blk_new w2 _ _ zero4 rfl) info_ck rfl rfl ?_; intro w3 hblk hC hsz; have HC3 := Lib.hid (And.intro hblk (And.intro hC hsz)); clear hblk hC hsz) | fail)
      rw [← HBw.out]
      have hbl3 : Below w2.heap.size w2 w3 := (below_alloc w2 (.cells zero4.toArray 53)).trans (chg_below HC3.out.2.1 (fun y hy => by omega) (by simp))
      have hblk3 := HC3.out.1
      rw [← HBw.out] at hblk3
      have q1 := Arr.blk_cell hblk3 1
      have q2 := Arr.blk_cell hblk3 2
      have q3 := Arr.blk_cell hblk3 3
      simp only [List.getElem?_cons_zero, List.getElem?_cons_succ] at q1 q2 q3
      have HCc := Lib.hid (And.intro q1 (And.intro q2 q3))
      have HD3 := Lib.hid (d_keep hD HA.out.2.2 hbl3)
      have HN3 := Lib.hid (new_keep HN.out hbl3)
      have HB3 := Lib.hid (below_keep HA.out.2.1 hbl3)
      obtain ⟨lg, hlg⟩ : ∃ x, x = 2 * sl := ⟨_, rfl⟩
      have hlgi : (2 : Int) * (sl : Int) = (lg : Nat) := by omega
      obtain ⟨LG, hLG⟩ : ∃ x, x = (part s.now lg s.good.length).flatten := ⟨_, rfl⟩
      obtain ⟨R, hR⟩ : ∃ x, x = listed s.now sl E Q := ⟨_, rfl⟩
      have hnl := HD.out.2.1.len
      have hL : part s.now lg s.good.length = s.now.drop (2 * sl) := by rw [← hnl, part_all, hlg]
      have h32 : ∀ c ∈ s.now.drop (2 * sl), c.length = 32 := fun c hc => HD.out.2.1.now32 c (List.mem_of_mem_drop hc)
      have hdl : (s.now.drop (2 * sl)).length = s.now.length - 2 * sl := List.length_drop
      have hsl3 := HS.out.2
      have hn100 := HD.out.2.2.2
      have hfit := recs_fit E (s.now.length + 1) Q _ h32
      have hRr : R = recs E (s.now.length + 1) Q (s.now.drop (2 * sl)) := hR
      rw [← hRr, hdl] at hfit
      have HRec := Lib.hid (fun (ga : Option Addr) (gc : Nat) (wx : World) (hAg : Arg wx ga LG.length gc LG) => jrecs_any hP (s.now.drop (2 * sl)) h32 (by omega) (by omega) ga LG.length gc wx (by rw [← hL, ← hLG]; exact hAg) E Q (s.now.length + 1) hE hQ (by omega))
      rw [← hRr] at HRec
      have HLg := Lib.hid (And.intro (show lg ≤ s.good.length by omega) (And.intro hLG (And.intro hR hlg)))
      have hR1 : span R ≤ 100 := by omega
      have hR2 : R.length ≤ 100 := by omega
      clear hbl3 hblk3 q1 q2 q3 hLG hR hnl hL h32 hdl hsl3 hn100 hRr hfit hlg
      go_wp2_with fail
      refine Rel.wp_region_rel (G := Rel.Gr) (Rel.tab [.is (.pointer (some ⟨p, 0, none⟩)), .is (.int .i64 (lg : Nat)), .is (.pointer (some ⟨p, 0, none⟩)), .is (.int .i64 (s.good.length : Nat)), kNew w3.heap.size LG, .is (.pointer (some ⟨B, 1, none⟩)), .is (.int .i64 (E : Nat)), .is (.pointer (some ⟨B, 2, none⟩)), .is (.int .i64 (Q : Nat)), kRec w3.heap.size R, kRec w3.heap.size R, kLst w3.heap.size R, .is (.int .i64 (span R : Nat)), kLst w3.heap.size R, .is (.int .i64 (span R : Nat))]) (fun _ w => Below w3.heap.size w3 w) (by kernel_rfl) (by kernel_rfl) (by kernel_rfl) (by kernel_rfl) (fun w => Rel.gr_refl _) (below_drew _) ?_ ?_
      · refine ⟨?_, ?_, ?_, ?_, ?_, ?_, ?_, ?_, ?_, ?_, ?_, ?_, ?_, ?_, ?_, trivial⟩
        · intro L a w c
          refine .inl ⟨Rel.wanted_free (by kernel_rfl) _, ?_⟩
          exact Rel.wp_mv _ rfl ⟨_, rfl, Rel.gr_refl _, (c.old 0 (v := .pointer (some ⟨p, 0, none⟩)) (by kernel_rfl) (by kernel_rfl)), c.inv⟩
        · intro L a w c
          refine .inl ⟨Rel.wanted_free (by kernel_rfl) _, ?_⟩
          exact Rel.wp_mv _ rfl ⟨_, rfl, Rel.gr_refl _, (c.old 10 (v := .int .i64 (lg : Nat)) (by kernel_rfl) (by kernel_rfl)), c.inv⟩
        · intro L a w c
          refine .inl ⟨Rel.wanted_free (by kernel_rfl) _, ?_⟩
          exact Rel.wp_mv _ rfl ⟨_, rfl, Rel.gr_refl _, (c.old 0 (v := .pointer (some ⟨p, 0, none⟩)) (by kernel_rfl) (by kernel_rfl)), c.inv⟩
        · intro L a w c
          refine .inl ⟨Rel.wanted_free (by kernel_rfl) _, ?_⟩
          refine Rel.wp_cl _ _ _ rfl Try.func22 (by kernel_rfl) ?_
          show Calls _ _ #[Rel.slot a 29] w _
          rw [show Rel.slot a 29 = .pointer (some ⟨p, 0, none⟩) from (c.get 2 29 (by kernel_rfl))]
          refine (hD.size (d_keep hD HD3.out c.inv)).mono ?_
          rintro e w' ⟨rfl, hb⟩
          exact ⟨_, rfl, _, rfl, hb, rfl, below_keep c.inv hb⟩
        · intro L a w c
          refine .inl ⟨Rel.wanted_free (by kernel_rfl) _, ?_⟩
          refine Rel.wp_cl _ _ _ rfl Try.func27 (by kernel_rfl) ?_
          show Calls _ _ #[Rel.slot a 27, Rel.slot a 28, Rel.slot a 30] w _
          rw [show Rel.slot a 27 = .pointer (some ⟨p, 0, none⟩) from (c.get 0 27 (by kernel_rfl)), show Rel.slot a 28 = .int .i64 (lg : Nat) from (c.get 1 28 (by kernel_rfl)), show Rel.slot a 30 = .int .i64 (s.good.length : Nat) from (c.get 3 30 (by kernel_rfl))]
          refine (jread_any hD (d_keep hD HD3.out c.inv) lg s.good.length HLg.out.1 (Nat.le_refl _)).mono ?_
          rintro e w' ⟨v, rfl, hn, hb⟩
          exact ⟨_, rfl, _, rfl, hb, new_le (by rw [HLg.out.2.1]; exact hn) c.inv.size, below_keep c.inv hb⟩
        · intro L a w c
          refine .inl ⟨Rel.wanted_free (by kernel_rfl) _, ?_⟩
          exact Chn.wp_fa _ _ _ rfl (c.old 8 (v := .pointer (some ⟨B, 0, none⟩)) (by kernel_rfl) (by kernel_rfl)) (by simp [go_sem]) ⟨_, rfl, Rel.gr_refl _, rfl, c.inv⟩
        · intro L a w c
          refine .inl ⟨Rel.wanted_free (by kernel_rfl) _, ?_⟩
          exact Rel.wp_ld _ _ rfl (c.get 5 32 (by kernel_rfl)) (run_ld_n (cell_keep c.inv HCc.out.1)) ⟨_, rfl, Rel.gr_refl _, rfl, c.inv⟩
        · intro L a w c
          refine .inl ⟨Rel.wanted_free (by kernel_rfl) _, ?_⟩
          exact Chn.wp_fa _ _ _ rfl (c.old 8 (v := .pointer (some ⟨B, 0, none⟩)) (by kernel_rfl) (by kernel_rfl)) (by simp [go_sem]) ⟨_, rfl, Rel.gr_refl _, rfl, c.inv⟩
        · intro L a w c
          refine .inl ⟨Rel.wanted_free (by kernel_rfl) _, ?_⟩
          exact Rel.wp_ld _ _ rfl (c.get 7 34 (by kernel_rfl)) (run_ld_n (cell_keep c.inv HCc.out.2.1)) ⟨_, rfl, Rel.gr_refl _, rfl, c.inv⟩
        · intro L a w c
          refine .inl ⟨Rel.wanted_free (by kernel_rfl) _, ?_⟩
          obtain ⟨ga, gc, eg, hAg⟩ := arg_new (c.get 4 31 (by kernel_rfl))
          refine Rel.wp_cl _ _ _ rfl Try.func26 (by kernel_rfl) ?_
          show Calls _ _ #[Rel.slot a 31, Rel.slot a 33, Rel.slot a 35] w _
          rw [show Rel.slot a 31 = _ from eg, show Rel.slot a 33 = .int .i64 (E : Nat) from (c.get 6 33 (by kernel_rfl)), show Rel.slot a 35 = .int .i64 (Q : Nat) from (c.get 8 35 (by kernel_rfl))]
          refine (HRec.out ga gc w hAg).mono ?_
          rintro e w' ⟨v, rfl, hn, hb⟩
          exact ⟨_, rfl, _, rfl, hb, ⟨v, rfl, newL_le hn c.inv.size⟩, below_keep c.inv hb⟩
        · intro L a w c
          refine .inl ⟨Rel.wanted_free (by kernel_rfl) _, ?_⟩
          exact Rel.wp_mv _ rfl ⟨_, rfl, Rel.gr_refl _, (c.get 9 36 (by kernel_rfl)), c.inv⟩
        · intro L a w c
          refine .inl ⟨Rel.wanted_free (by kernel_rfl) _, ?_⟩
          obtain ⟨v', e', h'⟩ := c.get 10 26 (by kernel_rfl)
          exact Rel.wp_ex _ _ rfl e' (run_ex2 _ _ 0 _ rfl w) ⟨_, rfl, Rel.gr_refl _, h', c.inv⟩
        · intro L a w c
          refine .inl ⟨Rel.wanted_free (by kernel_rfl) _, ?_⟩
          obtain ⟨v', e', h'⟩ := c.get 10 26 (by kernel_rfl)
          exact Rel.wp_ex _ _ rfl e' (run_ex2 _ _ 1 _ rfl w) ⟨_, rfl, Rel.gr_refl _, rfl, c.inv⟩
        · intro L a w c
          refine .inl ⟨Rel.wanted_free (by kernel_rfl) _, ?_⟩
          exact Rel.wp_as _ rfl ⟨_, rfl, Rel.gr_refl _, (c.get 11 37 (by kernel_rfl)), c.inv⟩
        · intro L a w c
          refine .inl ⟨Rel.wanted_free (by kernel_rfl) _, ?_⟩
          exact Rel.wp_as _ rfl ⟨_, rfl, Rel.gr_refl _, (c.get 12 38 (by kernel_rfl)), c.inv⟩
      intro a w9 hbase hroom hdef hJ hV
      have s11 : Rel.slot a 11 = .int .i64 (span R : Nat) := hV 14 _ _ rfl rfl
      have k6 : (kLst w3.heap.size R : Rel.Kd (Rel.Gr)).p w9 (Rel.slot a 6) := hV 13 _ _ rfl rfl
      rw [Chn.act_puts [27, 28, 29, 30, 31, 32, 33, 34, 35, 36, 26, 37, 38, 6, 11] hbase hroom hdef (by kernel_rfl)]
      clear hbase hroom hdef hV
      simp only [List.foldl_cons, List.foldl_nil]
      generalize Rel.slot a 27 = u27 at *
      generalize Rel.slot a 28 = u28 at *
      generalize Rel.slot a 29 = u29 at *
      generalize Rel.slot a 30 = u30 at *
      generalize Rel.slot a 31 = u31 at *
      generalize Rel.slot a 32 = u32 at *
      generalize Rel.slot a 33 = u33 at *
      generalize Rel.slot a 34 = u34 at *
      generalize Rel.slot a 35 = u35 at *
      generalize Rel.slot a 36 = u36 at *
      generalize Rel.slot a 26 = u26 at *
      generalize Rel.slot a 37 = u37 at *
      generalize Rel.slot a 38 = u38 at *
      generalize Rel.slot a 6 = u6 at *
      rw [s11]
      clear s11
      simp only [Act.put, List.setIfInBounds_toArray, List.set_cons_succ, List.set_cons_zero]
      obtain ⟨al, cl, ss, rfl, m1, m2, m3, m4, m5, m6, m7, m8⟩ := k6
      obtain ⟨n6, hn6⟩ : ∃ n, n = ss.length := ⟨_, rfl⟩
      rw [← hn6] at m1 m3 ⊢
      have hn6R : n6 = R.length := by rw [hn6, ← m6, List.length_map]
      have hn6b : n6 ≤ 100 := by omega
      have q1 := cell_keep hJ HCc.out.1
      have q2 := cell_keep hJ HCc.out.2.1
      have q3 := cell_keep hJ HCc.out.2.2
      have HQ3 := Lib.hid q3
      have HL9 := Lib.hid (show ListF w9 (fun k => w3.heap.size ≤ k ∧ k < w9.heap.size) (.slice al n6 cl) R from ⟨al, cl, ss, by rw [hn6], by rw [← hn6]; exact m1, m2, by rw [← hn6]; exact m3, m4, m5, m6, m7, m8⟩)
      have HR9 := Lib.hid (And.intro hn6R hJ)
      clear m1 m2 m3 m4 m5 m6 m7 m8 hn6 hn6R hJ q3
      go_wp2_with fail
      obtain ⟨w10, hw10⟩ : ∃ x, x = w9.alloc (.cells #[.pointer (some ⟨p, 0, none⟩), .int .i64 (sl : Nat), .int .i64 (E : Nat), .int .i64 ((Q : Int) + (n6 : Int)), .int .i64 ((lg : Int) + (span R : Int)), .bool false, .bool false] 61) := ⟨_, rfl⟩
      rw [← hw10]
      have hb10 : Below w9.heap.size w9 w10 := by rw [hw10]; exact below_alloc _ _
      have hlt10 : w9.heap.size < w10.heap.size := by rw [hw10]; simp
      have hblk : Arr.Blk w10 w9.heap.size 61 [.pointer (some ⟨p, 0, none⟩), .int .i64 (sl : Nat), .int .i64 (E : Nat), .int .i64 ((Q + n6 : Nat) : Int), .int .i64 ((lg + span R : Nat) : Int), .bool false, .bool false] := by
        rw [hw10]
        exact Arr.blk_new w9 _ _ [.pointer (some ⟨p, 0, none⟩), .int .i64 (sl : Nat), .int .i64 (E : Nat), .int .i64 ((Q + n6 : Nat) : Int), .int .i64 ((lg + span R : Nat) : Int), .bool false, .bool false] rfl
      have HC10 := Lib.hid (cell_keep hb10 HQ3.out)
      have H10 := Lib.hid (And.intro hb10 (And.intro hlt10 hblk))
      clear hb10 hlt10 hblk hw10 q1 q2
      have c10 := HC10.out
      go_quiet (fail)
      go_wp2_with fail
      refine bodyPost_ret (results_tmp4 rfl _ _ _) rfl ?_
      have hdone := OpenR.done (s := s) (slot := (sl : Nat)) P E Q b HX.out.1 (by rw [Int.toNat_natCast]; exact HA.out.1)
      rw [Int.toNat_natCast, ← HLg.out.2.2.1] at hdone
      have hb39 : Below w3.heap.size w3 w9 := HR9.out.2
      have hb310 := below_keep hb39 H10.out.1
      have hb311 := below_keep hb310 (below_drewN w10 nq)
      have hb911 := below_keep H10.out.1 (below_drewN w10 nq)
      have hw3 := HB3.out
      have hsz3 := hw3.size
      have hsz9 := hb39.size
      have hsz11 := (below_drewN w10 nq).size
      have hlt := H10.out.2.1
      have hsz1 := HB1.out
      refine ⟨0, _, hdone, ⟨w9.heap.size, (fun k => k = w9.heap.size), _, _, rfl, ⟨?_, rfl⟩, fun k hk => by subst hk; omega, ⟨a3, c3, by rw [← HNb.out]; rfl, ?_, ?_⟩, list_chg HL9.out (new_chg hb911 (fun _ => False)) (fun _ _ => id) fun k hk => ⟨by omega, by omega, by omega⟩⟩, below_keep hw3 hb311⟩
      · have := blk_chg (new_chg (below_drewN w10 nq) (fun _ => False)) H10.out.2.2 id
        rw [HR9.out.1, HLg.out.2.2.2] at this
        exact this
      · have := new_keep HN3.out hb311
        obtain ⟨a', c', he, g1, g2, g3, g4, _⟩ := this
        injection he with e1 e2 e3
        subst e1 e3
        exact ⟨rfl, g1, g2, g3, g4⟩
      · intro q hq
        obtain ⟨a', c', he, _, _, _, _, g5⟩ := HN3.out
        injection he with e1 e2 e3
        subst e1
        obtain ⟨k1, k2⟩ := g5 q hq
        exact ⟨by omega, by omega, by omega⟩
  · have HX := Lib.hid (And.intro hpo (decide_eq_false hpo))
    clear hpo hs
    go_enter Try.func10, Try.ntmps10
    go_wp2_with fail
    refine HPl.out.mono ?_
    rw [HX.out.2]
    rintro e w1 ⟨rfl, hb⟩
    have HB := Lib.hid hb
    clear hb
    go_wp2_with fail
    refine bodyPost_ret (results_tmp4 rfl _ _ _) rfl ?_
    exact ⟨1, none, .arg HX.out.1, ⟨_, _, rfl, new_nil _ _, ⟨none, 0, [], rfl, Nat.le_refl _, Nat.zero_le _, (fun _ => ⟨rfl, rfl⟩), .inl rfl, (fun s hs => by cases hs), rfl⟩⟩, HB.out⟩
end Go.Proofs.Ytdgfoldobofgoaa.Jrn
/- Common: a region that draws its order whose last operation waits for all others (a store behind what it stores): the others by what the slots hold (XRegRel), then the last one alone. -/
namespace Go.Proofs.Ytdgfoldobofgoaa.Rel
open Go.RowKit

variable {P : Program} {Q : Exit → Act → World → Prop} {G : World → World → Prop} {a0 : Act}

theorem pop_size {L : Array Bool} {n : Nat} (h : L.size = n + 1) : L.pop.size = n := by simp [h]
theorem pop_at {L : Array Bool} {n i : Nat} (h : L.size = n + 1) (hi : i < n) : L.pop[i]? = L[i]? := by
  rw [Array.getElem?_pop, if_pos (by omega)]
theorem pop_getD {L : Array Bool} {n i : Nat} (h : L.size = n + 1) (hi : i < n) (b : Bool) : L.pop.getD i b = L.getD i b := by
  rw [Array.getD_eq_getD_getElem?, Array.getD_eq_getD_getElem?, pop_at h hi]
theorem pop_set {L : Array Bool} {n i : Nat} (h : L.size = n + 1) (hi : i < n) : (L.setIfInBounds i true).pop = L.pop.setIfInBounds i true := by
  apply Array.ext_getElem?
  intro j
  rw [Array.getElem?_pop, Array.getElem?_setIfInBounds, Array.getElem?_setIfInBounds, Array.getElem?_pop]
  simp only [Array.size_setIfInBounds, Array.size_pop]
  by_cases hij : i = j
  · subst hij
    rw [if_pos (by omega), if_pos rfl, if_pos rfl, if_pos (by omega), if_pos (by omega)]
  · rw [if_neg hij, if_neg hij]
/-- One operation of the law, by its invariant. -/
theorem rel_step {ops : Array Oper} {V : Nat → Kd G} {J : Array Bool → World → Prop} (hap : apartB ops.toList = true) (hsz : ∀ (i : Nat) (o : Oper) (d : Tmp), ops[i]? = some o → o.dst = some d → d < a0.tmps.size)
    (hsteps : Steps P ops Q V J a0 0 ops.toList) {L : Array Bool} {a : Act} {w : World} {i : Nat} {o : Oper} (hI : Inv ops V J a0 L a w) (hun : L.getD i true = false) (ho : ops[i]? = some o) (hg : o.guard = none) (hcame : ∀ j, waits o j = true → L.getD j false = true) :
    o.wp P a w (fun a' w' => Inv ops V J a0 (L.setIfInBounds i true) a' w') Q := by
  have hI' := hI
  obtain ⟨h1, h2, h3, h4, h5, h6, h7⟩ := hI
  have hs := steps_at ops.toList 0 hsteps i o (by simpa using ho)
  rw [Nat.zero_add] at hs
  replace hs := hs L a w ⟨h1, hun, h2, h3, h5, fun j o' d hj hd hw => h6 j o' d hj hd (hcame j hw), hcame, h7⟩
  rcases hs with ⟨hw, hs⟩ | ⟨hw, hv, hJ⟩
  · exact Oper.wp_mono (fun a'' w'' ⟨v, ha, hG, hv, hJ⟩ => by subst ha; exact inv_step hap hsz ho hun hcame hI' hG hv hJ) hs
  · rw [wanted_none hg] at hw; cases hw

/-- THE LAW. -/
theorem wp_region_last {id : Nat} {w : World} {l : List Oper} (o : Oper) (V : Nat → Kd G) (J : Array Bool → World → Prop) (hm : P.follows .mixedOrders = true) (hlast : l.getLast? = some o) (hfree : (l.all fun o => o.guard.isNone) = true) (hap : apartB l.dropLast = true) (hor : orderB 0 l = true)
    (hwait : ((List.range l.dropLast.length).all fun j => waits o j) = true) (hsz : (l.dropLast.all fun o => match o.dst with | some d => decide (d < a0.tmps.size) | none => true) = true)
    (h0 : J (Array.replicate l.dropLast.length false) w.drew) (hsteps : Steps P l.dropLast.toArray Q V J a0 0 l.dropLast)
    (hdone : ∀ a w, (∀ s, unwritten l.dropLast.toArray s = true → slot a s = slot a0 s) → a.tmps.size = a0.tmps.size → a.defers = a0.defers → J (Array.replicate l.dropLast.length true) w → (∀ (j : Nat) (o : Oper) (d : Tmp), l.dropLast[j]? = some o → o.dst = some d → (V j).p w (slot a d)) → o.wp P a w (fun a' w' => Q .normal a' w') Q) :
    (Code.region id l.toArray true).wp P Q a0 w := by
  obtain ⟨n, hn⟩ : ∃ n, n = l.dropLast.length := ⟨_, rfl⟩
  have hl : l = l.dropLast ++ [o] := by
    rcases List.eq_nil_or_concat l with e | ⟨l', b, e⟩
    · rw [e] at hlast; cases hlast
    · rw [e] at hlast ⊢
      simp at hlast
      subst hlast
      simp
  have hlen : l.length = n + 1 := by rw [hl, List.length_append, List.length_singleton, ← hn]
  have hat : ∀ i, i < n → l[i]? = l.dropLast[i]? := fun i hi => by
    conv => lhs; rw [hl]
    rw [List.getElem?_append_left (by omega)]
  have hatn : l[n]? = some o := by
    conv => lhs; rw [hl]
    rw [List.getElem?_append_right (by omega), ← hn, Nat.sub_self]; rfl
  have hsz' : ∀ (i : Nat) (o : Oper) (d : Tmp), l.dropLast.toArray[i]? = some o → o.dst = some d → d < a0.tmps.size := by
    intro i o d ho hd
    have := List.all_eq_true.1 hsz o (List.mem_of_getElem? (by simpa using ho))
    rw [hd] at this
    simpa using this
  have hguard : ∀ (i : Nat) (x : Oper), l[i]? = some x → x.guard = none := fun i x hx => by
    have := List.all_eq_true.1 hfree x (List.mem_of_getElem? hx)
    simpa using this
  rw [← hn] at hwait h0 hdone
  have hw := List.all_eq_true.1 hwait
  refine Reg.wp_region_inv (fun L a w => (L.size = n + 1 ∧ L.getD n true = false ∧ Inv l.dropLast.toArray V J a0 L.pop a w) ∨ (L = Array.replicate (n + 1) true ∧ Q .normal a w)) hm ?_ ?_ ?_
  · left
    refine ⟨by simp [hlen], by simp [hlen], by simp [hlen], fun _ _ => rfl, rfl, rfl, ?_, fun j o d _ _ hl' => ?_, fun j o i _ hl' _ => ?_⟩
    · have e : (Array.replicate l.toArray.size false).pop = Array.replicate n false := by simp [hlen]
      rw [e]; exact h0
    · have e : (Array.replicate l.toArray.size false).pop = Array.replicate n false := by simp [hlen]
      rw [e] at hl'
      by_cases hj : j < n <;> simp [hj] at hl'
    · have e : (Array.replicate l.toArray.size false).pop = Array.replicate n false := by simp [hlen]
      rw [e] at hl'
      by_cases hj : j < n <;> simp [hj] at hl'
  · intro L a' w' hI hready
    rcases hI with ⟨h1, h2, hI⟩ | ⟨_, hq⟩
    · exfalso
      have hall : ∀ j, j < n → L.getD j false = true := by
        intro j
        induction j using Nat.strongRecOn with
        | _ j ih =>
          intro hj
          have ho : l[j]? = some (l[j]'(by omega)) := List.getElem?_eq_getElem (by omega)
          refine Reg.none_ready (ops := l.toArray) (by simp [h1, hlen]) hready (o := l[j]'(by omega)) (by simp) fun e he hb => ?_
          have hlt := order_at l 0 hor j _ ho e he hb
          exact ih e.on (by omega) (by omega)
      have hn' : L.getD n false = true := by
        refine Reg.none_ready (ops := l.toArray) (by simp [h1, hlen]) hready (o := o) (by simpa using hatn) fun e he hb => ?_
        have hlt := order_at l 0 hor n _ hatn e he hb
        exact hall e.on (by omega)
      have hsz : n < L.size := by omega
      simp [hsz] at h2 hn'
      rw [h2] at hn'; cases hn'
    · exact hq
  · intro L a' w' i hI hi
    obtain ⟨hun, x, hx, hdep⟩ := mem_ready.1 hi
    have hx' : l[i]? = some x := by simpa using hx
    have hg := hguard i x hx'
    have hil : i < n + 1 := by rw [← hlen]; exact (List.getElem?_eq_some_iff.1 hx').1
    rcases hI with ⟨h1, h2, hI⟩ | ⟨hL, _⟩
    · have hcame : ∀ j, waits x j = true → L.getD j false = true := by
        intro j hj
        unfold waits at hj
        obtain ⟨e, he, hb⟩ := List.any_eq_true.1 hj
        simp only [Bool.and_eq_true, beq_iff_eq] at hb
        have := hdep e (by simpa using he) hb.2
        rw [hb.1] at this
        exact this
      unfold wpOp
      simp only [hx]
      rw [if_pos (wanted_none hg _)]
      by_cases hin : i = n
      · subst hin
        rw [hatn] at hx'
        injection hx' with hx'
        subst hx'
        have hall : ∀ j, j < i → L.getD j false = true := fun j hj => hcame j (hw j (List.mem_range.2 hj))
        have hpop : L.pop = Array.replicate i true := by
          apply Array.ext
          · simp [h1]
          · intro j hj1 hj2
            have hj : j < i := by simpa using hj2
            have := hall j hj
            have hjL : j < L.size := by omega
            simp [hjL] at this
            simp [this]
        have hset : L.setIfInBounds i true = Array.replicate (i + 1) true := by
          apply Array.ext
          · simp [h1]
          · intro j hj1 hj2
            have hj : j < i + 1 := by simpa using hj2
            rw [Array.getElem_setIfInBounds (by simpa using hj1)]
            by_cases e : i = j
            · simp [e]
            · have := hall j (by omega)
              have hjL : j < L.size := by omega
              simp [hjL] at this
              simp [e, this]
        rw [hpop] at hI
        obtain ⟨_, g2, g3, g4, g5, g6, _⟩ := hI
        refine .inl (Oper.wp_mono (fun a'' w'' hq => .inr ⟨hset, hq⟩) (hdone a' w' g2 g3 g4 g5 fun j y d hj hd => g6 j y d (by simpa using hj) hd ?_))
        have hjn : j < i := by rw [hn]; exact (List.getElem?_eq_some_iff.1 hj).1
        simp [hjn]
      · have hin' : i < n := by omega
        have hxd : l.dropLast.toArray[i]? = some x := by
          have := hat i hin'
          rw [hx'] at this
          simpa using this.symm
        have hw' : ∀ j, waits x j = true → j < n := fun j hj => by
          unfold waits at hj
          obtain ⟨e, he, hb⟩ := List.any_eq_true.1 hj
          simp only [Bool.and_eq_true, beq_iff_eq] at hb
          have := order_at l 0 hor i x hx' e (by simpa using he) hb.2
          omega
        have hs := rel_step (by simpa using hap) hsz' hsteps hI (by rw [pop_getD h1 hin']; exact hun) hxd hg fun j hj => by rw [pop_getD h1 (hw' j hj)]; exact hcame j hj
        refine .inl (Oper.wp_mono (fun a'' w'' hq => .inl ⟨by simp [h1], ?_, by rw [pop_set h1 hin']; exact hq⟩) hs)
        have hne : i ≠ n := hin
        simp [hne]
        simpa using h2
    · subst hL
      simp [hil] at hun

section
variable {o : Oper} {a : Act} {w : World} {K : Act → World → Prop}
theorem wp_al (t : TypeId) (ho : o.op = .alloc t) {u : Value} {w' : World} (hr : (Instr.alloc t true (.tuple #[])).run P w = .ok u w') (h : K (a.put o.dst u) w') : o.wp P a w K Q := by
  unfold Oper.wp execOp
  simp only [ho, Sem.run_bind, hr]
  exact h
theorem wp_bd4 (t : TypeId) (x y z u : Operand) (ho : o.op = .build t #[(0, x), (1, y), (2, z), (3, u)]) {vx vy vz vu r : Value} {w' : World} (hx : a.eval x = vx) (hy : a.eval y = vy) (hz : a.eval z = vz) (hu : a.eval u = vu) (hr : (Instr.build t #[(0, vx), (1, vy), (2, vz), (3, vu)]).run P w = .ok r w') (h : K (a.put o.dst r) w') : o.wp P a w K Q := by
  subst hx hy hz hu
  unfold Oper.wp execOp
  have hm : (#[(0, x), (1, y), (2, z), (3, u)] : Array (Nat × Operand)).map (fun (i, x) => (i, a.eval x)) = #[(0, a.eval x), (1, a.eval y), (2, a.eval z), (3, a.eval u)] := by simp
  simp only [ho, Sem.run_bind, hm, hr]
  exact h
end
end Go.Proofs.Ytdgfoldobofgoaa.Rel
/- Journal: the landed Checkpoint. -/
namespace Go.Proofs.Ytdgfoldobofgoaa.Jrn
set_option maxRecDepth 100000
open Go.RowKit
open Go.Sort
open Kit
open Oct
open Chk
open Frm
open Foot
open Dsk (Sec DS mix mix_at mix_length mix_whole mix_none RdB)
set_option linter.unusedVariables false
variable {D : World → (Nat → Prop) → Nat → DS → Prop}
variable {w w' : World} {F G : Nat → Prop} {p pj : Nat} {s t : DS} {j : JS}

theorem run_alloc_ck (w : World) : (Instr.alloc 53 true (.tuple #[])).run Try.prog w = .ok (.pointer (some ⟨w.heap.size, 0, none⟩)) (w.alloc (.cells zero4.toArray 53)) := by
  simp [go_sem]
  rfl
theorem run_build_ck (x y z : Int) (a : Option Addr) (n c : Nat) (w : World) : (Instr.build 53 #[(0, .int .i64 x), (1, .int .i64 y), (2, .int .i64 z), (3, .slice a n c)]).run Try.prog w = .ok (.agg #[.int .i64 x, .int .i64 y, .int .i64 z, .slice a n c]) w := by
  simp [go_sem]
theorem run_ld_dp {w : World} {a : Addr} {q : Addr} (h : w.cell? a = some (.pointer (some q))) : (Instr.loadAt 23 (.pointer (some a))).run Try.prog w = .ok (.pointer (some q)) w := by
  simp [go_sem, h]
theorem run_ld_ck {w : World} {B : Nat} {cs : List Value} (h : Arr.Blk w B 53 cs) (hl : cs.length = 4) : (Instr.loadAt 53 (.pointer (some ⟨B, 0, none⟩))).run Try.prog w = .ok (.agg cs.toArray) w := by
  have hi : (Try.prog.info? 53).map (·.size) = some cs.toArray.size := by rw [info_ck]; simp [hl]
  simp only [Instr.loadAt, Instr.sureAddr, Sem.run_bind, Sem.run_pure, Result.andThen_ok]
  exact run_loadVar_row w B 53 53 cs.toArray (0, 0) _ h Try.underlying53 rfl hi
theorem run_st_n {w : World} {a : Addr} {n : Nat} {old : Value} (h : w.cell? a = some old) (hf : w.frozen? a = false) : (Instr.storeAt 3 (.pointer (some a)) (.int .i64 (n : Nat))).run Try.prog w = .ok () (w.setCell a (.int .i64 (n : Nat))) := by
  simp [go_sem, h, hf]
theorem run_st_b {w : World} {a : Addr} {b : Bool} {old : Value} (h : w.cell? a = some old) (hf : w.frozen? a = false) : (Instr.storeAt 4 (.pointer (some a)) (.bool b)).run Try.prog w = .ok () (w.setCell a (.bool b)) := by
  simp [go_sem, h, hf]
def kZero (base : Nat) : Rel.Kd Rel.Gr := ⟨fun w u => ∃ B, u = .pointer (some ⟨B, 0, none⟩) ∧ base ≤ B ∧ Arr.Blk w B 53 zero4, fun _ _ _ h ⟨B, e, h1, h2⟩ => ⟨B, e, h1, blk_chg (new_chg h (fun _ => False)) h2 id⟩⟩
/-- What save leaves, seen from a world ahead of it. -/
def PostSv (D : World → (Nat → Prop) → Nat → DS → Prop) (F : Nat → Prop) (p : Nat) (s : DS) (sl pl e1 sq : Nat) (b : Bs) (w6 : World) (v : Value) (ww : World) : Prop :=
  ∃ n s', v = .int .i64 (n : Nat) ∧ SaveR s sl pl e1 sq b n s' ∧ D ww (More F w6 ww) p s' ∧ Chg F w6 ww
def phiCk (w6 : World) (R : Value → World → Prop) : Nat → List Value → World → Prop
  | 0, _, ww => ww = w6.drew
  | 1, vs, ww => ∃ v, vs = [v] ∧ R v ww
  | _, vs, ww => ∃ v, vs = [v, v] ∧ R v ww
theorem phi_first {w6 ww : World} {R : Value → World → Prop} {jj : Nat} {vs : List Value} (hj : jj ≤ 0) (h : phiCk w6 R jj vs ww) : ww = w6.drew := by
  obtain rfl : jj = 0 := by omega
  exact h
def phiSt (w9 : World) (pj e1 nx : Nat) : Nat → List Value → World → Prop
  | 0, _, ww => ww = w9.drew
  | 1, _, ww => ww = w9.drew.setCell ⟨pj, 2, none⟩ (.int .i64 (e1 : Nat))
  | 2, _, ww => ww = (w9.drew.setCell ⟨pj, 2, none⟩ (.int .i64 (e1 : Nat))).setCell ⟨pj, 4, none⟩ (.int .i64 (nx : Nat))
  | _, _, ww => ww = ((w9.drew.setCell ⟨pj, 2, none⟩ (.int .i64 (e1 : Nat))).setCell ⟨pj, 4, none⟩ (.int .i64 (nx : Nat))).setCell ⟨pj, 5, none⟩ (.bool true)
theorem st_first {w9 ww : World} {pj e1 nx : Nat} {jj : Nat} {vs : List Value} (hj : jj ≤ 0) (h : phiSt w9 pj e1 nx jj vs ww) : ww = w9.drew := by
  obtain rfl : jj = 0 := by omega
  exact h

set_option maxHeartbeats 8000000 in
theorem jckpt_any (hD : Dsk.Prog D) (hP : Frm.Prog) (h : D w F p s) (hj : Jr w G pj p j) (hF : ∀ k, F k → k < w.heap.size) (hG : ∀ k, G k → k < w.heap.size) (hap : ∀ k, F k → ¬ G k) (h100 : s.good.length ≤ 100) (hok : JOk j s.good.length) (hsee : Seen j s)
    (aa : Option Addr) (len cap : Nat) (b : Bs) (hA : Arg w aa len cap b) (hl : len ≤ 3000) :
    Calls Try.prog 15 #[.pointer (some ⟨pj, 0, none⟩), .slice aa len cap] w fun e w' => ∃ n j' s', e = .returned (.int .i64 (n : Nat)) ∧ CkR j s b n j' s' ∧ D w' (More F w w') p s' ∧ Jr w' G pj p j' ∧ Chg (fun k => F k ∨ G k) w w' := by
  obtain ⟨w0, hw0⟩ : ∃ x, x = w := ⟨_, rfl⟩
  rw [← hw0] at h hj hF hG hA ⊢
  clear hw0
  have hc := jr_cells hj
  have c6 := hc.c6
  have HD := Lib.hid (And.intro h (And.intro hj (And.intro hF (And.intro hG (And.intro hap (And.intro hA hok))))))
  have HJ := Lib.hid hc
  clear h hF hG hap hA hj hc
  cases hdn : j.down with
  | true =>
    rw [hdn] at c6
    have HDn := Lib.hid hdn
    clear hdn
    go_enter Try.func15, Try.ntmps15
    go_wp2_with fail
    go_ret
    have hX : D w0 (More F w0 w0) p s ∧ Jr w0 G pj p j ∧ Chg (fun k => F k ∨ G k) w0 w0 := ⟨hD.mono HD.out.1 fun k hk => .inl hk, HD.out.2.1, chg_refl _ _⟩
    first | exact ⟨10, j, s, rfl, .dead HDn.out, hX.1, hX.2.1, hX.2.2⟩ | exact ⟨10, rfl, j, s, .dead HDn.out, hX.1, hX.2.1, hX.2.2⟩
  | false =>
    rw [hdn] at c6
    obtain ⟨E0, Q0, b0, hpk⟩ := hsee hdn
    have hplace := hok.place
    obtain ⟨sl, hsl⟩ : ∃ x, x = j.slot := ⟨_, rfl⟩
    obtain ⟨pl, hpl⟩ : ∃ x, x = 1 - j.place := ⟨_, rfl⟩
    obtain ⟨lE, hlE⟩ : ∃ x, x = lastE s.now := ⟨_, rfl⟩
    obtain ⟨sq, hsq⟩ : ∃ x, x = j.seq := ⟨_, rfl⟩
    have HJs := Lib.hid (show w0.cell? ⟨pj, 1, none⟩ = some (.int .i64 (sl : Nat)) by rw [hsl]; exact HJ.out.c1)
    have HJq := Lib.hid (show w0.cell? ⟨pj, 3, none⟩ = some (.int .i64 (sq : Nat)) by rw [hsq]; exact HJ.out.c3)
    have HPl := Lib.hid (show otherN (pick s.now sl) = pl by
      rw [hsl, hpk, hpl]
      show (if j.place = 0 then 1 else 0) = 1 - j.place
      split <;> omega)
    have HlE := Lib.hid hlE.symm
    have HS := Lib.hid (show 1 ≤ sl ∧ 2 * sl < s.good.length ∧ s.good.length ≤ 100 by rw [hsl]; exact ⟨hok.slot.1, hok.slot.2, h100⟩)
    have hlEb : lE < 4294967296 := by rw [hlE]; exact last_lt _
    have hslb : sl ≤ 100 := by have := HS.out; omega
    have HEq := Lib.hid (And.intro hsl (And.intro hpl (And.intro hlE (And.intro hsq hdn))))
    have HQb := Lib.hid (show sq < 4294967296 ∧ pl ≤ 1 by rw [hsq, hpl]; exact ⟨hok.seq, by omega⟩)
    clear hsl hpl hlE hsq hpk hplace hsee hok hdn h100
    go_enter Try.func15, Try.ntmps15
    go_wp2_with fail
    refine Rel.wp_region_last (G := Rel.Gr) _ (Rel.tab [.is (.pointer (some ⟨pj, 0, none⟩)), .is (.pointer (some ⟨pj, 0, none⟩)), .is (.pointer (some ⟨pj, 0, none⟩)), .is (.pointer (some ⟨p, 0, none⟩)), .is (.pointer (some ⟨pj, 0, none⟩)), .is (.pointer (some ⟨pj, 0, none⟩)), .is (.pointer (some ⟨pj, 1, none⟩)), .is (.int .i64 (sl : Nat)), .is (.int .i64 (pl : Nat)), .is (.pointer (some ⟨pj, 0, none⟩)), .is (.pointer (some ⟨pj, 0, none⟩)), .is (.pointer (some ⟨pj, 0, none⟩)), .is (.pointer (some ⟨p, 0, none⟩)), .is (.int .i64 (lE : Nat)), .is (.int .i64 ((lE + 1 : Nat) : Int)), .is (.pointer (some ⟨pj, 0, none⟩)), .is (.pointer (some ⟨pj, 0, none⟩)), .is (.pointer (some ⟨pj, 3, none⟩)), .is (.int .i64 (sq : Nat)), .is (.slice aa len cap), .is (.agg #[.int .i64 (pl : Nat), .int .i64 ((lE + 1 : Nat) : Int), .int .i64 (sq : Nat), .slice aa len cap]), kZero w0.heap.size]) (fun _ w => Below w0.heap.size w0 w) (by kernel_rfl) rfl (by kernel_rfl) (by kernel_rfl) (by kernel_rfl) (by kernel_rfl) (by kernel_rfl) (below_drew _) ?_ ?_
    · refine ⟨?_, ?_, ?_, ?_, ?_, ?_, ?_, ?_, ?_, ?_, ?_, ?_, ?_, ?_, ?_, ?_, ?_, ?_, ?_, ?_, ?_, ?_, trivial⟩
      · intro L a w c
        refine .inl ⟨Rel.wanted_free (by kernel_rfl) _, ?_⟩
        exact Rel.wp_mv _ rfl ⟨_, rfl, Rel.gr_refl _, (c.old 0 (v := .pointer (some ⟨pj, 0, none⟩)) (by kernel_rfl) (by kernel_rfl)), c.inv⟩
      · intro L a w c
        refine .inl ⟨Rel.wanted_free (by kernel_rfl) _, ?_⟩
        exact Chn.wp_nc _ rfl (c.get 0 13 (by kernel_rfl)) ⟨_, rfl, Rel.gr_refl _, rfl, c.inv⟩
      · intro L a w c
        refine .inl ⟨Rel.wanted_free (by kernel_rfl) _, ?_⟩
        exact Chn.wp_fa _ _ _ rfl (c.get 1 14 (by kernel_rfl)) (by simp [go_sem]) ⟨_, rfl, Rel.gr_refl _, rfl, c.inv⟩
      · intro L a w c
        refine .inl ⟨Rel.wanted_free (by kernel_rfl) _, ?_⟩
        exact Rel.wp_ld _ _ rfl (c.get 2 15 (by kernel_rfl)) (run_ld_dp (cell_keep c.inv HJ.out.c0)) ⟨_, rfl, Rel.gr_refl _, rfl, c.inv⟩
      · intro L a w c
        refine .inl ⟨Rel.wanted_free (by kernel_rfl) _, ?_⟩
        exact Rel.wp_mv _ rfl ⟨_, rfl, Rel.gr_refl _, (c.old 0 (v := .pointer (some ⟨pj, 0, none⟩)) (by kernel_rfl) (by kernel_rfl)), c.inv⟩
      · intro L a w c
        refine .inl ⟨Rel.wanted_free (by kernel_rfl) _, ?_⟩
        exact Chn.wp_nc _ rfl (c.get 4 17 (by kernel_rfl)) ⟨_, rfl, Rel.gr_refl _, rfl, c.inv⟩
      · intro L a w c
        refine .inl ⟨Rel.wanted_free (by kernel_rfl) _, ?_⟩
        exact Chn.wp_fa _ _ _ rfl (c.get 5 18 (by kernel_rfl)) (by simp [go_sem]) ⟨_, rfl, Rel.gr_refl _, rfl, c.inv⟩
      · intro L a w c
        refine .inl ⟨Rel.wanted_free (by kernel_rfl) _, ?_⟩
        exact Rel.wp_ld _ _ rfl (c.get 6 19 (by kernel_rfl)) (run_ld_n (cell_keep c.inv HJs.out)) ⟨_, rfl, Rel.gr_refl _, rfl, c.inv⟩
      · intro L a w c
        refine .inl ⟨Rel.wanted_free (by kernel_rfl) _, ?_⟩
        refine Rel.wp_cl _ _ _ rfl Try.func32 (by kernel_rfl) ?_
        show Calls _ _ #[Rel.slot a 16, Rel.slot a 20] w _
        rw [show Rel.slot a 16 = .pointer (some ⟨p, 0, none⟩) from (c.get 3 16 (by kernel_rfl)), show Rel.slot a 20 = .int .i64 (sl : Nat) from (c.get 7 20 (by kernel_rfl))]
        refine (jother_any hD hP (d_keep hD HD.out.1 c.inv) sl HS.out.1 HS.out.2.1 HS.out.2.2).mono ?_
        rintro e w' ⟨rfl, hb⟩
        exact ⟨_, rfl, _, rfl, hb, by rw [HPl.out]; rfl, below_keep c.inv hb⟩
      · intro L a w c
        refine .inl ⟨Rel.wanted_free (by kernel_rfl) _, ?_⟩
        exact Rel.wp_mv _ rfl ⟨_, rfl, Rel.gr_refl _, (c.old 0 (v := .pointer (some ⟨pj, 0, none⟩)) (by kernel_rfl) (by kernel_rfl)), c.inv⟩
      · intro L a w c
        refine .inl ⟨Rel.wanted_free (by kernel_rfl) _, ?_⟩
        exact Chn.wp_nc _ rfl (c.get 9 22 (by kernel_rfl)) ⟨_, rfl, Rel.gr_refl _, rfl, c.inv⟩
      · intro L a w c
        refine .inl ⟨Rel.wanted_free (by kernel_rfl) _, ?_⟩
        exact Chn.wp_fa _ _ _ rfl (c.get 10 23 (by kernel_rfl)) (by simp [go_sem]) ⟨_, rfl, Rel.gr_refl _, rfl, c.inv⟩
      · intro L a w c
        refine .inl ⟨Rel.wanted_free (by kernel_rfl) _, ?_⟩
        exact Rel.wp_ld _ _ rfl (c.get 11 24 (by kernel_rfl)) (run_ld_dp (cell_keep c.inv HJ.out.c0)) ⟨_, rfl, Rel.gr_refl _, rfl, c.inv⟩
      · intro L a w c
        refine .inl ⟨Rel.wanted_free (by kernel_rfl) _, ?_⟩
        refine Rel.wp_cl _ _ _ rfl Try.func33 (by kernel_rfl) ?_
        show Calls _ _ #[Rel.slot a 25] w _
        rw [show Rel.slot a 25 = .pointer (some ⟨p, 0, none⟩) from (c.get 12 25 (by kernel_rfl))]
        refine (jlast_any hD (d_keep hD HD.out.1 c.inv)).mono ?_
        rintro e w' ⟨rfl, hb⟩
        exact ⟨_, rfl, _, rfl, hb, by rw [HlE.out]; rfl, below_keep c.inv hb⟩
      · intro L a w c
        refine .inl ⟨Rel.wanted_free (by kernel_rfl) _, ?_⟩
        exact Rel.wp_bo _ _ _ _ _ rfl (u := .int .i64 ((lE + 1 : Nat) : Int)) (c.get 13 26 (by kernel_rfl)) rfl (by simp [go_sem, IntKind.wrap_i64]; omega) ⟨_, rfl, Rel.gr_refl _, rfl, c.inv⟩
      · intro L a w c
        refine .inl ⟨Rel.wanted_free (by kernel_rfl) _, ?_⟩
        exact Rel.wp_mv _ rfl ⟨_, rfl, Rel.gr_refl _, (c.old 0 (v := .pointer (some ⟨pj, 0, none⟩)) (by kernel_rfl) (by kernel_rfl)), c.inv⟩
      · intro L a w c
        refine .inl ⟨Rel.wanted_free (by kernel_rfl) _, ?_⟩
        exact Chn.wp_nc _ rfl (c.get 15 28 (by kernel_rfl)) ⟨_, rfl, Rel.gr_refl _, rfl, c.inv⟩
      · intro L a w c
        refine .inl ⟨Rel.wanted_free (by kernel_rfl) _, ?_⟩
        exact Chn.wp_fa _ _ _ rfl (c.get 16 29 (by kernel_rfl)) (by simp [go_sem]) ⟨_, rfl, Rel.gr_refl _, rfl, c.inv⟩
      · intro L a w c
        refine .inl ⟨Rel.wanted_free (by kernel_rfl) _, ?_⟩
        exact Rel.wp_ld _ _ rfl (c.get 17 30 (by kernel_rfl)) (run_ld_n (cell_keep c.inv HJq.out)) ⟨_, rfl, Rel.gr_refl _, rfl, c.inv⟩
      · intro L a w c
        refine .inl ⟨Rel.wanted_free (by kernel_rfl) _, ?_⟩
        exact Rel.wp_mv _ rfl ⟨_, rfl, Rel.gr_refl _, (c.old 1 (v := .slice aa len cap) (by kernel_rfl) (by kernel_rfl)), c.inv⟩
      · intro L a w c
        refine .inl ⟨Rel.wanted_free (by kernel_rfl) _, ?_⟩
        exact Rel.wp_bd4 _ _ _ _ _ rfl (Rel.eval_tmp (c.get 8 21 (by kernel_rfl))) (Rel.eval_tmp (c.get 14 27 (by kernel_rfl))) (Rel.eval_tmp (c.get 18 31 (by kernel_rfl))) (Rel.eval_tmp (c.get 19 32 (by kernel_rfl))) (run_build_ck _ _ _ _ _ _ w) ⟨_, rfl, Rel.gr_refl _, rfl, c.inv⟩
      · intro L a w c
        refine .inl ⟨Rel.wanted_free (by kernel_rfl) _, ?_⟩
        exact Rel.wp_al _ rfl (run_alloc_ck w) ⟨_, rfl, below_alloc _ _, ⟨_, rfl, c.inv.size, Arr.blk_new w _ _ zero4 rfl⟩, below_keep c.inv (below_alloc _ _)⟩
    intro a w5 hbase hroom hdef hJ hV
    have s33 : Rel.slot a 33 = .agg #[.int .i64 (pl : Nat), .int .i64 ((lE + 1 : Nat) : Int), .int .i64 (sq : Nat), .slice aa len cap] := hV 20 _ _ rfl rfl
    have k5 : (kZero w0.heap.size : Rel.Kd (Rel.Gr)).p w5 (Rel.slot a 5) := hV 21 _ _ rfl rfl
    rw [Chn.act_puts [13, 14, 15, 16, 17, 18, 19, 20, 21, 22, 23, 24, 25, 26, 27, 28, 29, 30, 31, 32, 33, 5] hbase hroom hdef (by kernel_rfl)]
    clear hbase hroom hdef hV
    simp only [List.foldl_cons, List.foldl_nil]
    generalize Rel.slot a 13 = u13 at *
    generalize Rel.slot a 14 = u14 at *
    generalize Rel.slot a 15 = u15 at *
    generalize Rel.slot a 16 = u16 at *
    generalize Rel.slot a 17 = u17 at *
    generalize Rel.slot a 18 = u18 at *
    generalize Rel.slot a 19 = u19 at *
    generalize Rel.slot a 20 = u20 at *
    generalize Rel.slot a 21 = u21 at *
    generalize Rel.slot a 22 = u22 at *
    generalize Rel.slot a 23 = u23 at *
    generalize Rel.slot a 24 = u24 at *
    generalize Rel.slot a 25 = u25 at *
    generalize Rel.slot a 26 = u26 at *
    generalize Rel.slot a 27 = u27 at *
    generalize Rel.slot a 28 = u28 at *
    generalize Rel.slot a 29 = u29 at *
    generalize Rel.slot a 30 = u30 at *
    generalize Rel.slot a 31 = u31 at *
    generalize Rel.slot a 32 = u32 at *
    rw [s33]
    clear s33
    generalize Rel.slot a 5 = u5 at *
    simp only [Act.put, List.setIfInBounds_toArray, List.set_cons_succ, List.set_cons_zero]
    obtain ⟨B, rfl, hB, hblk⟩ := k5
    dsimp only [List.getLast]
    have hblk' := Arr.blk_row hblk [.int .i64 (pl : Nat), .int .i64 ((lE + 1 : Nat) : Int), .int .i64 (sq : Nat), .slice aa len cap]
    have hC' := chg_row (F := fun k => k = B) (chg_refl _ w5) (.inl rfl) #[.int .i64 (pl : Nat), .int .i64 ((lE + 1 : Nat) : Int), .int .i64 (sq : Nat), .slice aa len cap]
    refine wp_store_row 53 (.tmp 5) (.tmp 33) rfl B #[.int .i64 (pl : Nat), .int .i64 ((lE + 1 : Nat) : Int), .int .i64 (sq : Nat), .slice aa len cap] rfl rfl 53 zero4.toArray hblk info_ck rfl (by simp [Value.oneCell']) ?_
    obtain ⟨w6, hw6⟩ : ∃ x, x = w5.setRow B #[.int .i64 (pl : Nat), .int .i64 ((lE + 1 : Nat) : Int), .int .i64 (sq : Nat), .slice aa len cap] := ⟨_, rfl⟩
    rw [← hw6] at hC' ⊢
    replace hblk' : Arr.Blk w6 B 53 [.int .i64 (pl : Nat), .int .i64 ((lE + 1 : Nat) : Int), .int .i64 (sq : Nat), .slice aa len cap] := by rw [hw6]; exact hblk'
    have hb06 : Below w0.heap.size w0 w6 := hJ.trans (chg_below hC' (fun y hy => by omega) hJ.size)
    have hc6 := jr_cells (jr_keep HD.out.2.1 hb06)
    have H6 := Lib.hid (And.intro hblk' (And.intro hb06 (And.intro (d_keep hD HD.out.1 hb06) (jr_keep HD.out.2.1 hb06))))
    have HJ6 := Lib.hid hc6
    have HJs6 := Lib.hid (cell_keep hb06 HJs.out)
    have HSv := Lib.hid (fun (wx : World) (hb : Below w6.heap.size w6 wx) => (jsave_any hD hP (d_keep hD (d_keep hD HD.out.1 hb06) hb) (fun k hk => Nat.lt_of_lt_of_le (HD.out.2.2.1 k hk) (below_keep hb06 hb).size) sl pl (lE + 1) sq HS.out.1 HS.out.2.1 HQb.out.2 (by omega) HQb.out.1 aa len cap b (arg_keep HD.out.2.2.2.2.2.1 (below_keep hb06 hb)) hl).mono (R' := fun e w' => ∃ v, e = .returned v ∧ PostSv D F p s sl pl (lE + 1) sq b w6 v w') (by
      rintro e w' ⟨n, s', rfl, hr, hd, hC⟩
      exact ⟨_, rfl, n, s', rfl, hr, hD.mono hd fun k hk => hk.imp id fun h => ⟨Nat.le_trans hb.size h.1, h.2⟩, chg_trans (new_chg hb F) hC fun x hx => .inl hx⟩))
    have HB0 := Lib.hid hB
    clear hJ hblk hblk' hC' hw6 hb06 hc6 hB c6
    go_wp2_with fail
    refine Chn.wp_region_chain (fun idx => match idx with | 0 => some (.agg #[.int .i64 (pl : Nat), .int .i64 ((lE + 1 : Nat) : Int), .int .i64 (sq : Nat), .slice aa len cap]) | 1 => some (.pointer (some ⟨pj, 0, none⟩)) | 2 => some (.pointer (some ⟨pj, 0, none⟩)) | 3 => some (.pointer (some ⟨pj, 0, none⟩)) | 4 => some (.pointer (some ⟨p, 0, none⟩)) | 5 => some (.pointer (some ⟨pj, 0, none⟩)) | 6 => some (.pointer (some ⟨pj, 0, none⟩)) | 7 => some (.pointer (some ⟨pj, 1, none⟩)) | 8 => some (.int .i64 (sl : Nat)) | _ => none) [9, 10] (phiCk w6 (PostSv D F p s sl pl (lE + 1) sq b w6)) (by kernel_rfl) (by kernel_rfl) (by kernel_rfl) (by kernel_rfl) (by kernel_rfl) (by decide) (by kernel_rfl) (rfl) ?_ ?_
    · refine ⟨?_, ?_, ?_, ?_, ?_, ?_, ?_, ?_, ?_, ?_, ?_, trivial⟩
      · intro a ww jj vs c hj0 hΦ
        have hj : jj ≤ 0 := Nat.le_trans hj0 (of_decide_eq_true (by kernel_rfl))
        refine .inl ⟨Rel.wanted_free (by kernel_rfl) _, ?_⟩
        exact Rel.wp_ld _ _ rfl (c.old 5 (v := .pointer (some ⟨B, 0, none⟩)) (by kernel_rfl) (by kernel_rfl)) (by rw [phi_first hj hΦ]; exact run_ld_ck (blk_chg (new_chg (below_drew w6) (fun _ => False)) H6.out.1 id) rfl) ⟨rfl, rfl⟩
      · intro a ww jj vs c hj0 hΦ
        have hj : jj ≤ 0 := Nat.le_trans hj0 (of_decide_eq_true (by kernel_rfl))
        refine .inl ⟨Rel.wanted_free (by kernel_rfl) _, ?_⟩
        exact Rel.wp_mv _ rfl ⟨congrArg (a.put _) (c.old 0 (v := .pointer (some ⟨pj, 0, none⟩)) (by kernel_rfl) (by kernel_rfl)), rfl⟩
      · intro a ww jj vs c hj0 hΦ
        have hj : jj ≤ 0 := Nat.le_trans hj0 (of_decide_eq_true (by kernel_rfl))
        refine .inl ⟨Rel.wanted_free (by kernel_rfl) _, ?_⟩
        exact Chn.wp_nc _ rfl (c.get 1 35 (by kernel_rfl) rfl) ⟨rfl, rfl⟩
      · intro a ww jj vs c hj0 hΦ
        have hj : jj ≤ 0 := Nat.le_trans hj0 (of_decide_eq_true (by kernel_rfl))
        refine .inl ⟨Rel.wanted_free (by kernel_rfl) _, ?_⟩
        exact Chn.wp_fa _ _ _ rfl (c.get 2 36 (by kernel_rfl) rfl) (by simp [go_sem]) ⟨rfl, rfl⟩
      · intro a ww jj vs c hj0 hΦ
        have hj : jj ≤ 0 := Nat.le_trans hj0 (of_decide_eq_true (by kernel_rfl))
        refine .inl ⟨Rel.wanted_free (by kernel_rfl) _, ?_⟩
        exact Rel.wp_ld _ _ rfl (c.get 3 37 (by kernel_rfl) rfl) (by rw [phi_first hj hΦ]; exact run_ld_dp (cell_keep (below_drew w6) HJ6.out.c0)) ⟨rfl, rfl⟩
      · intro a ww jj vs c hj0 hΦ
        have hj : jj ≤ 0 := Nat.le_trans hj0 (of_decide_eq_true (by kernel_rfl))
        refine .inl ⟨Rel.wanted_free (by kernel_rfl) _, ?_⟩
        exact Rel.wp_mv _ rfl ⟨congrArg (a.put _) (c.old 0 (v := .pointer (some ⟨pj, 0, none⟩)) (by kernel_rfl) (by kernel_rfl)), rfl⟩
      · intro a ww jj vs c hj0 hΦ
        have hj : jj ≤ 0 := Nat.le_trans hj0 (of_decide_eq_true (by kernel_rfl))
        refine .inl ⟨Rel.wanted_free (by kernel_rfl) _, ?_⟩
        exact Chn.wp_nc _ rfl (c.get 5 39 (by kernel_rfl) rfl) ⟨rfl, rfl⟩
      · intro a ww jj vs c hj0 hΦ
        have hj : jj ≤ 0 := Nat.le_trans hj0 (of_decide_eq_true (by kernel_rfl))
        refine .inl ⟨Rel.wanted_free (by kernel_rfl) _, ?_⟩
        exact Chn.wp_fa _ _ _ rfl (c.get 6 40 (by kernel_rfl) rfl) (by simp [go_sem]) ⟨rfl, rfl⟩
      · intro a ww jj vs c hj0 hΦ
        have hj : jj ≤ 0 := Nat.le_trans hj0 (of_decide_eq_true (by kernel_rfl))
        refine .inl ⟨Rel.wanted_free (by kernel_rfl) _, ?_⟩
        exact Rel.wp_ld _ _ rfl (c.get 7 41 (by kernel_rfl) rfl) (by rw [phi_first hj hΦ]; exact run_ld_n (cell_keep (below_drew w6) HJs6.out)) ⟨rfl, rfl⟩
      · refine ⟨0, rfl, ?_⟩
        intro a ww c hΦ
        have h : (phiCk w6 (PostSv D F p s sl pl (lE + 1) sq b w6)) 0 [] ww := hΦ
        clear hΦ
        refine ⟨Rel.wanted_free (by kernel_rfl) _, ?_⟩
        have hw : ww = w6.drew := h
        subst hw
        refine Rel.wp_cl _ [.tmp 34, .tmp 38, .tmp 42] _ rfl Try.func24 (by kernel_rfl) ?_
        show Calls _ _ #[Rel.slot a 34, Rel.slot a 38, Rel.slot a 42] w6.drew _
        rw [c.get 0 34 (by kernel_rfl) rfl, c.get 4 38 (by kernel_rfl) rfl, c.get 8 42 (by kernel_rfl) rfl]
        refine (HSv.out w6.drew (below_drew w6)).mono ?_
        rintro e9 w9 ⟨v, rfl, hv⟩
        exact ⟨_, rfl, _, rfl, v, rfl, hv⟩
      · refine ⟨1, rfl, ?_⟩
        intro a ww c hΦ
        have h : (phiCk w6 (PostSv D F p s sl pl (lE + 1) sq b w6)) 1 [Rel.slot a 43] ww := hΦ
        clear hΦ
        refine ⟨Rel.wanted_free (by kernel_rfl) _, ?_⟩
        obtain ⟨v, hv, hR⟩ := h
        injection hv with hv _
        exact Rel.wp_as _ rfl ⟨_, rfl, (show phiCk w6 _ 2 [Rel.slot a 43, Rel.slot a 43] ww from ⟨v, by rw [hv], hR⟩)⟩
    intro a w9 hbase hroom hdef hΦ hV
    have h : (phiCk w6 (PostSv D F p s sl pl (lE + 1) sq b w6)) 2 [Rel.slot a 43, Rel.slot a 6] w9 := hΦ
    rw [Chn.act_puts [34, 35, 36, 37, 38, 39, 40, 41, 42, 43, 6] hbase hroom hdef (by kernel_rfl)]
    clear hbase hroom hdef hΦ hV
    simp only [List.foldl_cons, List.foldl_nil]
    generalize Rel.slot a 34 = u34 at *
    generalize Rel.slot a 35 = u35 at *
    generalize Rel.slot a 36 = u36 at *
    generalize Rel.slot a 37 = u37 at *
    generalize Rel.slot a 38 = u38 at *
    generalize Rel.slot a 39 = u39 at *
    generalize Rel.slot a 40 = u40 at *
    generalize Rel.slot a 41 = u41 at *
    generalize Rel.slot a 42 = u42 at *
    generalize Rel.slot a 43 = u43 at *
    generalize Rel.slot a 6 = u6 at *
    obtain ⟨v, hv, n, s', rfl, hr, hd, hC⟩ := h
    simp only [List.cons.injEq, and_true] at hv
    obtain ⟨hv1, hv2⟩ := hv
    subst hv1 hv2
    have hjr9 : Jr w9 G pj p j := jr_chg H6.out.2.2.2 hC fun k hg hf => HD.out.2.2.2.2.1 k hf hg
    have hc9 := jr_cells hjr9
    have hBF : ¬ F B := fun hf => by have := HD.out.2.2.1 B hf; have := HB0.out; omega
    have hblk9 := blk_chg hC H6.out.1 hBF
    have hC09 : Chg F w0 w9 := chg_trans (new_chg H6.out.2.1 F) hC fun x hx => .inl hx
    have hdm : D w9 (More F w0 w9) p s' := hD.mono hd fun k hk => hk.imp id fun h => ⟨Nat.le_trans H6.out.2.1.size h.1, h.2⟩
    have hnM : ¬ More F w0 w9 pj := fun hm => hm.elim (fun hf => HD.out.2.2.2.2.1 pj hf HD.out.2.1.2) fun h => by have := HD.out.2.2.2.1 pj HD.out.2.1.2; omega
    have H9 := Lib.hid (And.intro hjr9 (And.intro hblk9 (And.intro hC09 (And.intro hdm hnM))))
    have q6 := hc9.c6
    have f6 := Arr.blk_frozen hjr9.1 6
    rw [HEq.out.2.2.2.2] at q6
    -- what a store into the journal's own cells leaves
    have hset : ∀ (bl : List Value) (jn : JS) (wz : World), encJ p jn = bl → Arr.Blk wz pj 61 bl → Chg (fun k => k = pj) w9 wz → D wz (More F w0 wz) p s' ∧ Jr wz G pj p jn ∧ Chg (fun k => F k ∨ G k) w0 wz := fun bl jn wz he hb hz =>
      ⟨hD.mono (hD.chg H9.out.2.2.2.1 hz fun k hk e => H9.out.2.2.2.2 (e ▸ hk)) fun k hk => more_up hz.size hk, ⟨by rw [he]; exact hb, HD.out.2.1.2⟩, chg_trans (chg_mono H9.out.2.2.1 fun k _ hk => .inl hk) hz fun x hx => .inl (.inr (by rw [hx]; exact HD.out.2.1.2))⟩
    have HSet := Lib.hid hset
    clear hset hd hC hjr9 hc9 hBF hblk9 hC09 hdm hnM HSv
    cases hr with
    | big hb =>
      have hb2 : lE = 4294967295 := by omega
      have H2 := Lib.hid hb2
      clear hb hb2
      go_wp2_with fail
      go_ret
      obtain ⟨x1, x2, x3⟩ := HSet.out _ j _ rfl (by have := Arr.blk_set H9.out.1.1 6 (.bool false); rw [show (encJ p j).set 6 (.bool false) = encJ p j by unfold encJ; rw [HEq.out.2.2.2.2]; rfl] at this; exact this) (set_chg w9 pj 6 (.bool false))
      have hk : CkR j s b 2 j s := .big HEq.out.2.2.2.2 (.inr (by rw [← HEq.out.2.2.1]; have := H2.out; omega))
      first | exact ⟨2, j, s, rfl, hk, x1, x2, x3⟩ | exact ⟨2, rfl, j, s, hk, x1, x2, x3⟩
    | full hb hb2 =>
      have H2 := Lib.hid (And.intro hb hb2)
      clear hb hb2
      go_wp2_with fail
      go_ret
      obtain ⟨x1, x2, x3⟩ := HSet.out _ j _ rfl (by have := Arr.blk_set H9.out.1.1 6 (.bool false); rw [show (encJ p j).set 6 (.bool false) = encJ p j by unfold encJ; rw [HEq.out.2.2.2.2]; rfl] at this; exact this) (set_chg w9 pj 6 (.bool false))
      have hlb : b.length ≤ 3000 := by have := HD.out.2.2.2.2.2.1.len; omega
      have hk : CkR j s b 5 j s := .full HEq.out.2.2.2.2 (by have := H2.out.1; rw [← HEq.out.2.2.1]; omega) (by rw [← HEq.out.1]; exact H2.out.2)
      first | exact ⟨5, j, s, rfl, hk, x1, x2, x3⟩ | exact ⟨5, rfl, j, s, hk, x1, x2, x3⟩
    | down s' hb hb2 hs =>
      have H2 := Lib.hid (And.intro hb (And.intro hb2 hs))
      clear hb hb2 hs
      go_wp2_with fail
      go_ret
      obtain ⟨x1, x2, x3⟩ := HSet.out _ { j with down := true } _ rfl (by have := Arr.blk_set H9.out.1.1 6 (.bool true); exact this) (set_chg w9 pj 6 (.bool true))
      have hlb : b.length ≤ 3000 := by have := HD.out.2.2.2.2.2.1.len; omega
      have hk : CkR j s b 10 { j with down := true } s' := .down s' HEq.out.2.2.2.2 (by have := H2.out.1; rw [← HEq.out.2.2.1]; omega) (by rw [← HEq.out.1]; exact H2.out.2.1) (by rw [← HEq.out.1, ← HEq.out.2.1, ← HEq.out.2.2.1, ← HEq.out.2.2.2.1]; exact H2.out.2.2)
      first | exact ⟨10, { j with down := true }, s', rfl, hk, x1, x2, x3⟩ | exact ⟨10, rfl, { j with down := true }, s', hk, x1, x2, x3⟩
    | done s' hb hb2 hs =>
      have H2 := Lib.hid (And.intro hb (And.intro hb2 hs))
      have q1 := Arr.blk_cell H9.out.2.1 1
      simp only [List.getElem?_cons_zero, List.getElem?_cons_succ] at q1
      have HB9 := Lib.hid q1
      have HJs9 := Lib.hid (show w9.cell? ⟨pj, 1, none⟩ = some (.int .i64 (sl : Nat)) by rw [HEq.out.1]; exact (jr_cells H9.out.1).c1)
      have b0 : Arr.Blk w9.drew pj 61 (encJ p j) := H9.out.1.1
      have b1 := Arr.blk_set b0 2 (.int .i64 ((lE + 1 : Nat) : Int))
      have b2 := Arr.blk_set b1 4 (.int .i64 ((2 * sl : Nat) : Int))
      have b3 := Arr.blk_set b2 5 (.bool true)
      have HSt := Lib.hid (And.intro (And.intro (Arr.blk_cell b0 2) (Arr.blk_frozen b0 2)) (And.intro (And.intro (Arr.blk_cell b1 4) (Arr.blk_frozen b1 4)) (And.intro (Arr.blk_cell b2 5) (Arr.blk_frozen b2 5))))
      have hz : Chg (fun k => k = pj) w9 (((w9.drew.setCell ⟨pj, 2, none⟩ (.int .i64 ((lE + 1 : Nat) : Int))).setCell ⟨pj, 4, none⟩ (.int .i64 ((2 * sl : Nat) : Int))).setCell ⟨pj, 5, none⟩ (.bool true)) :=
        chg_set (F := fun k => k = pj) (chg_set (F := fun k => k = pj) (chg_set (F := fun k => k = pj) (chg_drew (chg_refl _ w9)) (.inl rfl) 2 _) (.inl rfl) 4 _) (.inl rfl) 5 _
      have HX := Lib.hid (HSet.out _ { j with epoch := lE + 1, place := 1 - j.place, next := 2 * j.slot, opened := true } _ rfl (by have := b3; rw [show (((encJ p j).set 2 (.int .i64 ((lE + 1 : Nat) : Int))).set 4 (.int .i64 ((2 * sl : Nat) : Int))).set 5 (.bool true) = encJ p { j with epoch := lE + 1, place := 1 - j.place, next := 2 * j.slot, opened := true } by unfold encJ; rw [HEq.out.1]; rfl] at this; exact this) hz)
      clear hb hb2 hs q1 b0 b1 b2 b3 hz q6 f6
      go_wp2_with fail
      refine Chn.wp_region_chain (fun idx => match idx with | 0 => some (.pointer (some ⟨pj, 0, none⟩)) | 1 => some (.pointer (some ⟨pj, 0, none⟩)) | 2 => some (.pointer (some ⟨pj, 0, none⟩)) | 3 => some (.pointer (some ⟨B, 1, none⟩)) | 4 => some (.int .i64 ((lE + 1 : Nat) : Int)) | 5 => some (.pointer (some ⟨pj, 0, none⟩)) | 6 => some (.pointer (some ⟨pj, 0, none⟩)) | 7 => some (.pointer (some ⟨pj, 1, none⟩)) | 8 => some (.int .i64 (sl : Nat)) | 9 => some (.int .i64 ((2 * sl : Nat) : Int)) | 10 => some (.pointer (some ⟨pj, 0, none⟩)) | 11 => some (.pointer (some ⟨pj, 2, none⟩)) | 13 => some (.pointer (some ⟨pj, 0, none⟩)) | 14 => some (.pointer (some ⟨pj, 4, none⟩)) | 16 => some (.pointer (some ⟨pj, 0, none⟩)) | 17 => some (.pointer (some ⟨pj, 5, none⟩)) | _ => none) [12, 15, 18] (phiSt w9 pj (lE + 1) (2 * sl)) (by kernel_rfl) (by kernel_rfl) (by kernel_rfl) (by kernel_rfl) (by kernel_rfl) (by decide) (by kernel_rfl) (rfl) ?_ ?_
      · refine ⟨?_, ?_, ?_, ?_, ?_, ?_, ?_, ?_, ?_, ?_, ?_, ?_, ?_, ?_, ?_, ?_, ?_, ?_, ?_, trivial⟩
        · intro a ww jj vs c hj0 hΦ
          have hj : jj ≤ 0 := Nat.le_trans hj0 (of_decide_eq_true (by kernel_rfl))
          refine .inl ⟨Rel.wanted_free (by kernel_rfl) _, ?_⟩
          exact Rel.wp_mv _ rfl ⟨congrArg (a.put _) (c.old 0 (v := .pointer (some ⟨pj, 0, none⟩)) (by kernel_rfl) (by kernel_rfl)), rfl⟩
        · intro a ww jj vs c hj0 hΦ
          have hj : jj ≤ 1 := Nat.le_trans hj0 (of_decide_eq_true (by kernel_rfl))
          refine .inl ⟨Rel.wanted_free (by kernel_rfl) _, ?_⟩
          exact Rel.wp_mv _ rfl ⟨congrArg (a.put _) (c.old 0 (v := .pointer (some ⟨pj, 0, none⟩)) (by kernel_rfl) (by kernel_rfl)), rfl⟩
        · intro a ww jj vs c hj0 hΦ
          have hj : jj ≤ 2 := Nat.le_trans hj0 (of_decide_eq_true (by kernel_rfl))
          refine .inl ⟨Rel.wanted_free (by kernel_rfl) _, ?_⟩
          exact Rel.wp_mv _ rfl ⟨congrArg (a.put _) (c.old 0 (v := .pointer (some ⟨pj, 0, none⟩)) (by kernel_rfl) (by kernel_rfl)), rfl⟩
        · intro a ww jj vs c hj0 hΦ
          have hj : jj ≤ 0 := Nat.le_trans hj0 (of_decide_eq_true (by kernel_rfl))
          refine .inl ⟨Rel.wanted_free (by kernel_rfl) _, ?_⟩
          exact Chn.wp_fa _ _ _ rfl (c.old 5 (v := .pointer (some ⟨B, 0, none⟩)) (by kernel_rfl) (by kernel_rfl)) (by simp [go_sem]) ⟨rfl, rfl⟩
        · intro a ww jj vs c hj0 hΦ
          have hj : jj ≤ 0 := Nat.le_trans hj0 (of_decide_eq_true (by kernel_rfl))
          refine .inl ⟨Rel.wanted_free (by kernel_rfl) _, ?_⟩
          exact Rel.wp_ld _ _ rfl (c.get 3 55 (by kernel_rfl) rfl) (by rw [st_first hj hΦ]; exact run_ld_n (cell_keep (below_drew w9) HB9.out)) ⟨rfl, rfl⟩
        · intro a ww jj vs c hj0 hΦ
          have hj : jj ≤ 1 := Nat.le_trans hj0 (of_decide_eq_true (by kernel_rfl))
          refine .inl ⟨Rel.wanted_free (by kernel_rfl) _, ?_⟩
          exact Rel.wp_mv _ rfl ⟨congrArg (a.put _) (c.old 0 (v := .pointer (some ⟨pj, 0, none⟩)) (by kernel_rfl) (by kernel_rfl)), rfl⟩
        · intro a ww jj vs c hj0 hΦ
          have hj : jj ≤ 1 := Nat.le_trans hj0 (of_decide_eq_true (by kernel_rfl))
          refine .inl ⟨Rel.wanted_free (by kernel_rfl) _, ?_⟩
          exact Chn.wp_nc _ rfl (c.get 5 57 (by kernel_rfl) rfl) ⟨rfl, rfl⟩
        · intro a ww jj vs c hj0 hΦ
          have hj : jj ≤ 1 := Nat.le_trans hj0 (of_decide_eq_true (by kernel_rfl))
          refine .inl ⟨Rel.wanted_free (by kernel_rfl) _, ?_⟩
          exact Chn.wp_fa _ _ _ rfl (c.get 6 58 (by kernel_rfl) rfl) (by simp [go_sem]) ⟨rfl, rfl⟩
        · intro a ww jj vs c hj0 hΦ
          have hj : jj ≤ 0 := Nat.le_trans hj0 (of_decide_eq_true (by kernel_rfl))
          refine .inl ⟨Rel.wanted_free (by kernel_rfl) _, ?_⟩
          exact Rel.wp_ld _ _ rfl (c.get 7 59 (by kernel_rfl) rfl) (by rw [st_first hj hΦ]; exact run_ld_n (cell_keep (below_drew w9) HJs9.out)) ⟨rfl, rfl⟩
        · intro a ww jj vs c hj0 hΦ
          have hj : jj ≤ 1 := Nat.le_trans hj0 (of_decide_eq_true (by kernel_rfl))
          refine .inl ⟨Rel.wanted_free (by kernel_rfl) _, ?_⟩
          exact Rel.wp_bo _ _ _ _ _ rfl rfl (c.get 8 60 (by kernel_rfl) rfl) (by simp [go_sem, IntKind.wrap_i64]; omega) ⟨rfl, rfl⟩
        · intro a ww jj vs c hj0 hΦ
          have hj : jj ≤ 0 := Nat.le_trans hj0 (of_decide_eq_true (by kernel_rfl))
          refine .inl ⟨Rel.wanted_free (by kernel_rfl) _, ?_⟩
          exact Chn.wp_nc _ rfl (c.get 0 52 (by kernel_rfl) rfl) ⟨rfl, rfl⟩
        · intro a ww jj vs c hj0 hΦ
          have hj : jj ≤ 0 := Nat.le_trans hj0 (of_decide_eq_true (by kernel_rfl))
          refine .inl ⟨Rel.wanted_free (by kernel_rfl) _, ?_⟩
          exact Chn.wp_fa _ _ _ rfl (c.get 10 62 (by kernel_rfl) rfl) (by simp [go_sem]) ⟨rfl, rfl⟩
        · refine ⟨0, rfl, ?_⟩
          intro a ww c hΦ
          have h : (phiSt w9 pj (lE + 1) (2 * sl)) 0 [] ww := hΦ
          clear hΦ
          refine ⟨Rel.wanted_free (by kernel_rfl) _, ?_⟩
          have hw : ww = w9.drew := h
          subst hw
          exact Chn.wp_st _ _ _ rfl (c.get 11 63 (by kernel_rfl) rfl) (c.get 4 56 (by kernel_rfl) rfl) (run_st_n (w := w9.drew) HSt.out.1.1 HSt.out.1.2) ⟨undef, rfl, rfl⟩
        · intro a ww jj vs c hj0 hΦ
          have hj : jj ≤ 1 := Nat.le_trans hj0 (of_decide_eq_true (by kernel_rfl))
          refine .inl ⟨Rel.wanted_free (by kernel_rfl) _, ?_⟩
          exact Chn.wp_nc _ rfl (c.get 1 53 (by kernel_rfl) rfl) ⟨rfl, rfl⟩
        · intro a ww jj vs c hj0 hΦ
          have hj : jj ≤ 1 := Nat.le_trans hj0 (of_decide_eq_true (by kernel_rfl))
          refine .inl ⟨Rel.wanted_free (by kernel_rfl) _, ?_⟩
          exact Chn.wp_fa _ _ _ rfl (c.get 13 64 (by kernel_rfl) rfl) (by simp [go_sem]) ⟨rfl, rfl⟩
        · refine ⟨1, rfl, ?_⟩
          intro a ww c hΦ
          have h : (phiSt w9 pj (lE + 1) (2 * sl)) 1 [undef] ww := hΦ
          clear hΦ
          refine ⟨Rel.wanted_free (by kernel_rfl) _, ?_⟩
          have hw : ww = _ := h
          subst hw
          exact Chn.wp_st _ _ _ rfl (c.get 14 65 (by kernel_rfl) rfl) (c.get 9 61 (by kernel_rfl) rfl) (run_st_n HSt.out.2.1.1 HSt.out.2.1.2) ⟨undef, rfl, rfl⟩
        · intro a ww jj vs c hj0 hΦ
          have hj : jj ≤ 2 := Nat.le_trans hj0 (of_decide_eq_true (by kernel_rfl))
          refine .inl ⟨Rel.wanted_free (by kernel_rfl) _, ?_⟩
          exact Chn.wp_nc _ rfl (c.get 2 54 (by kernel_rfl) rfl) ⟨rfl, rfl⟩
        · intro a ww jj vs c hj0 hΦ
          have hj : jj ≤ 2 := Nat.le_trans hj0 (of_decide_eq_true (by kernel_rfl))
          refine .inl ⟨Rel.wanted_free (by kernel_rfl) _, ?_⟩
          exact Chn.wp_fa _ _ _ rfl (c.get 16 66 (by kernel_rfl) rfl) (by simp [go_sem]) ⟨rfl, rfl⟩
        · refine ⟨2, rfl, ?_⟩
          intro a ww c hΦ
          have h : (phiSt w9 pj (lE + 1) (2 * sl)) 2 [undef, undef] ww := hΦ
          clear hΦ
          refine ⟨Rel.wanted_free (by kernel_rfl) _, ?_⟩
          have hw : ww = _ := h
          subst hw
          exact Chn.wp_st _ _ _ rfl (c.get 17 67 (by kernel_rfl) rfl) rfl (run_st_b HSt.out.2.2.1 HSt.out.2.2.2) ⟨undef, rfl, rfl⟩
      intro a w10 hbase hroom hdef hΦ hV
      have h : (phiSt w9 pj (lE + 1) (2 * sl)) 3 [undef, undef, undef] w10 := hΦ
      rw [Chn.act_puts [52, 53, 54, 55, 56, 57, 58, 59, 60, 61, 62, 63, 64, 65, 66, 67] hbase hroom hdef (by kernel_rfl)]
      clear hbase hroom hdef hΦ hV
      simp only [List.foldl_cons, List.foldl_nil]
      generalize Rel.slot a 52 = u52 at *
      generalize Rel.slot a 53 = u53 at *
      generalize Rel.slot a 54 = u54 at *
      generalize Rel.slot a 55 = u55 at *
      generalize Rel.slot a 56 = u56 at *
      generalize Rel.slot a 57 = u57 at *
      generalize Rel.slot a 58 = u58 at *
      generalize Rel.slot a 59 = u59 at *
      generalize Rel.slot a 60 = u60 at *
      generalize Rel.slot a 61 = u61 at *
      generalize Rel.slot a 62 = u62 at *
      generalize Rel.slot a 63 = u63 at *
      generalize Rel.slot a 64 = u64 at *
      generalize Rel.slot a 65 = u65 at *
      generalize Rel.slot a 66 = u66 at *
      generalize Rel.slot a 67 = u67 at *
      have hw10 : w10 = _ := h
      subst hw10
      clear h
      go_wp2_with fail
      go_ret
      have hlb : b.length ≤ 3000 := by have := HD.out.2.2.2.2.2.1.len; omega
      have hk := CkR.done (j := j) (s := s) (b := b) s' HEq.out.2.2.2.2 (by have := H2.out.1; rw [← HEq.out.2.2.1]; omega) (by rw [← HEq.out.1]; exact H2.out.2.1) (by rw [← HEq.out.1, ← HEq.out.2.1, ← HEq.out.2.2.1, ← HEq.out.2.2.2.1]; exact H2.out.2.2)
      rw [← HEq.out.2.2.1] at hk
      first | exact ⟨0, _, s', rfl, hk, HX.out.1, HX.out.2.1, HX.out.2.2⟩ | exact ⟨0, rfl, _, s', hk, HX.out.1, HX.out.2.1, HX.out.2.2⟩
end Go.Proofs.Ytdgfoldobofgoaa.Jrn
/- Journal: the landed Room, Append, Commit; the landed journal keeps all its contracts. -/
namespace Go.Proofs.Ytdgfoldobofgoaa.Jrn
set_option maxRecDepth 100000
open Go.RowKit
open Go.Sort
open Kit
open Oct
open Chk
open Frm
open Foot
open Dsk (Sec DS mix mix_at mix_length mix_whole mix_none RdB)
set_option linter.unusedVariables false
variable {D : World → (Nat → Prop) → Nat → DS → Prop}
variable {w w' : World} {F G : Nat → Prop} {p pj : Nat} {s t : DS} {j : JS}

/-! ### Room -/

set_option maxHeartbeats 4000000 in
theorem jroom_any (hD : Dsk.Prog D) (h : D w F p s) (hj : Jr w G pj p j) (hok : JOk j s.good.length) : Calls Try.prog 21 #[.pointer (some ⟨pj, 0, none⟩)] w fun e w' => e = .returned (.int .i64 ((s.good.length - j.next : Nat) : Int)) ∧ Below w.heap.size w w' := by
  have hsm := (hD.ok h).small
  obtain ⟨w0, hw0⟩ : ∃ x, x = w := ⟨_, rfl⟩
  rw [← hw0] at h hj ⊢
  have HD := Lib.hid h
  have HJ := Lib.hid (jr_cells hj)
  obtain ⟨n, hn⟩ : ∃ n, n = s.good.length := ⟨_, rfl⟩
  obtain ⟨nx, hnx⟩ : ∃ n, n = j.next := ⟨_, rfl⟩
  have HNx := Lib.hid (show w0.cell? ⟨pj, 4, none⟩ = some (.int .i64 (nx : Nat)) by rw [hnx]; exact HJ.out.c4)
  have hle : nx ≤ n := by rw [hnx, hn]; exact hok.next.2
  have hn10 : n ≤ 1024 := by omega
  rw [← hn, ← hnx]
  have HN := Lib.hid hn
  clear h hj hok hsm hn hnx hw0
  go_enter Try.func21, Try.ntmps21
  go_wp2_with fail
  refine Rel.wp_region_rel (G := Rel.Gr) (Rel.tab [.is (.pointer (some ⟨pj, 0, none⟩)), .is (.pointer (some ⟨pj, 0, none⟩)), .is (.pointer (some ⟨pj, 0, none⟩)), .is (.pointer (some ⟨p, 0, none⟩)), .is (.int .i64 (n : Nat)), .is (.pointer (some ⟨pj, 0, none⟩)), .is (.pointer (some ⟨pj, 0, none⟩)), .is (.pointer (some ⟨pj, 4, none⟩)), .is (.int .i64 (nx : Nat)), .is (.int .i64 ((n - nx : Nat) : Int)), .is (.int .i64 ((n - nx : Nat) : Int))]) (fun _ w => Below w0.heap.size w0 w) (by kernel_rfl) (by kernel_rfl) (by kernel_rfl) (by kernel_rfl) (fun w => Rel.gr_refl _) (below_drew _) ?_ ?_
  · refine ⟨?_, ?_, ?_, ?_, ?_, ?_, ?_, ?_, ?_, ?_, ?_, trivial⟩
    · intro L a w c
      refine .inl ⟨Rel.wanted_free (by kernel_rfl) _, ?_⟩
      exact Rel.wp_mv _ rfl ⟨_, rfl, Rel.gr_refl _, (c.old 0 (v := .pointer (some ⟨pj, 0, none⟩)) (by kernel_rfl) (by kernel_rfl)), c.inv⟩
    · intro L a w c
      refine .inl ⟨Rel.wanted_free (by kernel_rfl) _, ?_⟩
      exact Chn.wp_nc _ rfl (c.get 0 5 (by kernel_rfl)) ⟨_, rfl, Rel.gr_refl _, rfl, c.inv⟩
    · intro L a w c
      refine .inl ⟨Rel.wanted_free (by kernel_rfl) _, ?_⟩
      exact Chn.wp_fa _ _ _ rfl (c.get 1 6 (by kernel_rfl)) (by simp [go_sem]) ⟨_, rfl, Rel.gr_refl _, rfl, c.inv⟩
    · intro L a w c
      refine .inl ⟨Rel.wanted_free (by kernel_rfl) _, ?_⟩
      exact Rel.wp_ld _ _ rfl (c.get 2 7 (by kernel_rfl)) (run_ld_dp (cell_keep c.inv HJ.out.c0)) ⟨_, rfl, Rel.gr_refl _, rfl, c.inv⟩
    · intro L a w c
      refine .inl ⟨Rel.wanted_free (by kernel_rfl) _, ?_⟩
      refine Rel.wp_cl _ _ _ rfl Try.func22 (by kernel_rfl) ?_
      show Calls _ _ #[Rel.slot a 8] w _
      rw [show Rel.slot a 8 = .pointer (some ⟨p, 0, none⟩) from (c.get 3 8 (by kernel_rfl))]
      refine (hD.size (d_keep hD HD.out c.inv)).mono ?_
      rintro e w' ⟨rfl, hb⟩
      exact ⟨_, rfl, _, rfl, hb, by rw [HN.out]; rfl, below_keep c.inv hb⟩
    · intro L a w c
      refine .inl ⟨Rel.wanted_free (by kernel_rfl) _, ?_⟩
      exact Rel.wp_mv _ rfl ⟨_, rfl, Rel.gr_refl _, (c.old 0 (v := .pointer (some ⟨pj, 0, none⟩)) (by kernel_rfl) (by kernel_rfl)), c.inv⟩
    · intro L a w c
      refine .inl ⟨Rel.wanted_free (by kernel_rfl) _, ?_⟩
      exact Chn.wp_nc _ rfl (c.get 5 10 (by kernel_rfl)) ⟨_, rfl, Rel.gr_refl _, rfl, c.inv⟩
    · intro L a w c
      refine .inl ⟨Rel.wanted_free (by kernel_rfl) _, ?_⟩
      exact Chn.wp_fa _ _ _ rfl (c.get 6 11 (by kernel_rfl)) (by simp [go_sem]) ⟨_, rfl, Rel.gr_refl _, rfl, c.inv⟩
    · intro L a w c
      refine .inl ⟨Rel.wanted_free (by kernel_rfl) _, ?_⟩
      exact Rel.wp_ld _ _ rfl (c.get 7 12 (by kernel_rfl)) (run_ld_n (cell_keep c.inv HNx.out)) ⟨_, rfl, Rel.gr_refl _, rfl, c.inv⟩
    · intro L a w c
      refine .inl ⟨Rel.wanted_free (by kernel_rfl) _, ?_⟩
      exact Rel.wp_bo _ _ _ _ _ rfl (u := .int .i64 ((n - nx : Nat) : Int)) (c.get 4 9 (by kernel_rfl)) (c.get 8 13 (by kernel_rfl)) (by simp [go_sem, IntKind.wrap_i64]; omega) ⟨_, rfl, Rel.gr_refl _, rfl, c.inv⟩
    · intro L a w c
      refine .inl ⟨Rel.wanted_free (by kernel_rfl) _, ?_⟩
      exact Rel.wp_as _ rfl ⟨_, rfl, Rel.gr_refl _, (c.get 9 14 (by kernel_rfl)), c.inv⟩
  intro a w5 hbase hroom hdef hJ hV
  have s2 : Rel.slot a 2 = .int .i64 ((n - nx : Nat) : Int) := hV 10 _ _ rfl rfl
  rw [Chn.act_puts [5, 6, 7, 8, 9, 10, 11, 12, 13, 14, 2] hbase hroom hdef (by kernel_rfl)]
  clear hbase hroom hdef hV
  simp only [List.foldl_cons, List.foldl_nil]
  generalize Rel.slot a 5 = u5 at *
  generalize Rel.slot a 6 = u6 at *
  generalize Rel.slot a 7 = u7 at *
  generalize Rel.slot a 8 = u8 at *
  generalize Rel.slot a 9 = u9 at *
  generalize Rel.slot a 10 = u10 at *
  generalize Rel.slot a 11 = u11 at *
  generalize Rel.slot a 12 = u12 at *
  generalize Rel.slot a 13 = u13 at *
  generalize Rel.slot a 14 = u14 at *
  rw [s2]
  clear s2
  simp only [Act.put, List.setIfInBounds_toArray, List.set_cons_succ, List.set_cons_zero]
  have HB := Lib.hid hJ
  clear hJ
  go_wp2_with fail
  go_ret
  exact ⟨rfl, HB.out⟩

/-! ### Commit -/

set_option maxHeartbeats 4000000 in
theorem jcommit_any (hD : Dsk.Prog D) (h : D w F p s) (hj : Jr w G pj p j) (hF : ∀ k, F k → k < w.heap.size) (hG : ∀ k, G k → k < w.heap.size) (hap : ∀ k, F k → ¬ G k) :
    Calls Try.prog 14 #[.pointer (some ⟨pj, 0, none⟩)] w fun e w' => ∃ n j' s', e = .returned (.int .i64 (n : Nat)) ∧ CoR j s n j' s' ∧ D w' (More F w w') p s' ∧ Jr w' G pj p j' ∧ Chg (fun k => F k ∨ G k) w w' := by
  have HD := Lib.hid (And.intro h (And.intro hj (And.intro hF (And.intro hG hap))))
  have HX : Hid (D w (More F w w) p s ∧ Jr w G pj p j ∧ Chg (fun k => F k ∨ G k) w w) := Lib.hid ⟨hD.mono h fun k hk => .inl hk, hj, chg_refl _ _⟩
  have c0 := (jr_cells hj).c0
  have HRd := Lib.hid (jready_any hj)
  clear h hj hF hG hap
  cases hdn : j.down with
  | true =>
    have HDn := Lib.hid hdn
    have hrn : readyN j = 10 := by unfold readyN; rw [hdn]; rfl
    rw [hrn] at HRd
    clear hdn hrn
    go_enter Try.func14, Try.ntmps14
    go_wp2_with fail
    refine HRd.out.mono ?_
    rintro e w1 ⟨rfl, rfl⟩
    go_wp2_with fail
    go_ret
    first | exact ⟨10, j, s, rfl, .dead HDn.out, HX.out.1, HX.out.2.1, HX.out.2.2⟩ | exact ⟨10, rfl, j, s, .dead HDn.out, HX.out.1, HX.out.2.1, HX.out.2.2⟩
  | false =>
    cases hop : j.opened with
    | false =>
      have HDn := Lib.hid (And.intro hdn hop)
      have hrn : readyN j = 9 := by unfold readyN; rw [hdn, hop]; rfl
      rw [hrn] at HRd
      clear hdn hrn hop
      go_enter Try.func14, Try.ntmps14
      go_wp2_with fail
      refine HRd.out.mono ?_
      rintro e w1 ⟨rfl, rfl⟩
      go_wp2_with fail
      go_ret
      first | exact ⟨9, j, s, rfl, .closed HDn.out.1 HDn.out.2, HX.out.1, HX.out.2.1, HX.out.2.2⟩ | exact ⟨9, rfl, j, s, .closed HDn.out.1 HDn.out.2, HX.out.1, HX.out.2.1, HX.out.2.2⟩
    | true =>
      have HDn := Lib.hid (And.intro hdn hop)
      have hrn : readyN j = 0 := by unfold readyN; rw [hdn, hop]; rfl
      rw [hrn] at HRd
      clear hdn hrn hop
      go_enter Try.func14, Try.ntmps14
      go_wp2_with fail
      refine HRd.out.mono ?_
      rintro e w1 ⟨rfl, rfl⟩
      go_wp2_with fail
      refine (hD.flush HD.out.1 HD.out.2.2.1).mono ?_
      rintro e w2 ⟨rfl, hd, hC⟩
      have hjr := jr_chg HD.out.2.1 hC fun k hg hf => HD.out.2.2.2.2 k hf hg
      rcases flush_is s with ⟨hf, he⟩ | ⟨hf, g1, g2, g3, g4⟩
      · rw [he] at hd ⊢
        have q6 := (jr_cells hjr).c6
        rw [HDn.out.1] at q6
        have f6 := Arr.blk_frozen hjr.1 6
        have hb6 := Arr.blk_set hjr.1 6 (.bool true)
        have hz := set_chg w2 pj 6 (.bool true)
        have hnM : ¬ More F w w2 pj := fun hm => hm.elim (fun hf => HD.out.2.2.2.2 pj hf HD.out.2.1.2) fun h => by have := HD.out.2.2.2.1 pj HD.out.2.1.2; omega
        have H2 := Lib.hid (And.intro (hD.mono (hD.chg hd hz fun k hk e => hnM (e ▸ hk)) fun k hk => more_up hz.size hk) (And.intro (show Jr (w2.setCell ⟨pj, 6, none⟩ (.bool true)) G pj p { j with down := true } from ⟨hb6, HD.out.2.1.2⟩) (chg_trans (chg_mono hC fun k _ hk => (.inl hk : F k ∨ G k)) hz fun x hx => .inl (.inr (by rw [hx]; exact HD.out.2.1.2)))))
        have HE := Lib.hid (show s.fuse ≠ -1 by omega)
        have HOk := Lib.hid (hD.ok HD.out.1)
        clear hd hC hjr hf he hb6 hz hnM
        go_wp2_with fail
        go_ret
        have hk : CoR j s 10 { j with down := true } s := .down s HDn.out.1 HDn.out.2 ⟨rfl, rfl, HOk.out⟩ HE.out
        first | exact ⟨10, _, s, rfl, hk, H2.out.1, H2.out.2.1, H2.out.2.2⟩ | exact ⟨10, rfl, _, s, hk, H2.out.1, H2.out.2.1, H2.out.2.2⟩
      · rw [g1]
        have H2 := Lib.hid (And.intro hd (And.intro hjr (chg_mono hC fun k _ hk => (.inl hk : F k ∨ G k))))
        have hsu : Sure s s.flush.2 s.now := ⟨g2, g3, hD.ok hd, fun e => by rw [g4, e]; rfl⟩
        have HS := Lib.hid hsu
        clear hd hC hjr hf g1 g2 g3 g4 hsu
        go_wp2_with fail
        go_ret
        have hk : CoR j s 0 j s.flush.2 := .done _ HDn.out.1 HDn.out.2 HS.out
        first | exact ⟨0, j, _, rfl, hk, H2.out.1, H2.out.2.1, H2.out.2.2⟩ | exact ⟨0, rfl, j, _, hk, H2.out.1, H2.out.2.1, H2.out.2.2⟩

/-! ### Append -/

def kPk (base : Nat) (l : Bs) : Rel.Kd Rel.Gr := ⟨fun w u => ∃ v, u = .tuple #[v, .int .i64 0] ∧ NewB w base v l, fun _ _ _ h ⟨v, e, hn⟩ => ⟨v, e, new_keep hn h⟩⟩
def PostWr (D : World → (Nat → Prop) → Nat → DS → Prop) (F : Nat → Prop) (p : Nat) (s : DS) (nx : Nat) (cs : List Sec) (w6 : World) (v : Value) (ww : World) : Prop :=
  ∃ bo t, v = .bool bo ∧ (bo = true ∧ Put s t nx cs ∨ bo = false ∧ Half s t nx cs) ∧ D ww (More F w6 ww) p t ∧ Chg F w6 ww
def phiAp (w6 : World) (R : Value → World → Prop) : Nat → List Value → World → Prop
  | 0, _, ww => ww = w6.drew
  | 1, vs, ww => ∃ v, vs = [v] ∧ R v ww
  | _, vs, ww => ∃ b : Bool, vs = [.bool b, .bool (!b)] ∧ R (.bool b) ww
theorem ap_first {w6 ww : World} {R : Value → World → Prop} {jj : Nat} {vs : List Value} (hj : jj ≤ 0) (h : phiAp w6 R jj vs ww) : ww = w6.drew := by
  obtain rfl : jj = 0 := by omega
  exact h

set_option maxHeartbeats 8000000 in
theorem jappend_any (hD : Dsk.Prog D) (hP : Frm.Prog) (h : D w F p s) (hj : Jr w G pj p j) (hF : ∀ k, F k → k < w.heap.size) (hG : ∀ k, G k → k < w.heap.size) (hap : ∀ k, F k → ¬ G k) (hok : JOk j s.good.length)
    (aa : Option Addr) (len cap : Nat) (b : Bs) (hA : Arg w aa len cap b) (hl : len ≤ 3000) :
    Calls Try.prog 16 #[.pointer (some ⟨pj, 0, none⟩), .slice aa len cap] w fun e w' => ∃ n j' s', e = .returned (.int .i64 (n : Nat)) ∧ ApR j s b n j' s' ∧ D w' (More F w w') p s' ∧ Jr w' G pj p j' ∧ Chg (fun k => F k ∨ G k) w w' := by
  have HD := Lib.hid (And.intro h (And.intro hj (And.intro hF (And.intro hG (And.intro hap (And.intro hA hok))))))
  have HX := Lib.hid (show ∀ wx, Below w.heap.size w wx → D wx (More F w wx) p s ∧ Jr wx G pj p j ∧ Chg (fun k => F k ∨ G k) w wx from fun wx hb => ⟨hD.mono (d_keep hD h hb) fun k hk => .inl hk, jr_keep hj hb, new_chg hb _⟩)
  have HJ := Lib.hid (jr_cells hj)
  have HRd := Lib.hid (jready_any hj)
  clear h hj hF hG hap hA hok
  cases hdn : j.down with
  | true =>
    have HDn := Lib.hid hdn
    have hrn : readyN j = 10 := by unfold readyN; rw [hdn]; rfl
    rw [hrn] at HRd
    clear hdn hrn
    go_enter Try.func16, Try.ntmps16
    go_wp2_with fail
    refine HRd.out.mono ?_
    rintro e w1 ⟨rfl, rfl⟩
    go_wp2_with fail
    go_ret
    obtain ⟨x1, x2, x3⟩ := HX.out w (Below.refl _ _)
    first | exact ⟨10, j, s, rfl, .dead HDn.out, x1, x2, x3⟩ | exact ⟨10, rfl, j, s, .dead HDn.out, x1, x2, x3⟩
  | false =>
    cases hop : j.opened with
    | false =>
      have HDn := Lib.hid (And.intro hdn hop)
      have hrn : readyN j = 9 := by unfold readyN; rw [hdn, hop]; rfl
      rw [hrn] at HRd
      clear hdn hrn hop
      go_enter Try.func16, Try.ntmps16
      go_wp2_with fail
      refine HRd.out.mono ?_
      rintro e w1 ⟨rfl, rfl⟩
      go_wp2_with fail
      go_ret
      obtain ⟨x1, x2, x3⟩ := HX.out w (Below.refl _ _)
      first | exact ⟨9, j, s, rfl, .closed HDn.out.1 HDn.out.2, x1, x2, x3⟩ | exact ⟨9, rfl, j, s, .closed HDn.out.1 HDn.out.2, x1, x2, x3⟩
    | true =>
      have HDn := Lib.hid (And.intro hdn hop)
      have hrn : readyN j = 0 := by unfold readyN; rw [hdn, hop]; rfl
      rw [hrn] at HRd
      have hlb := HD.out.2.2.2.2.2.1.len
      have HLb := Lib.hid hlb
      have hsm := (hD.ok HD.out.1).small
      obtain ⟨ep, hep0⟩ : ∃ x, x = j.epoch := ⟨_, rfl⟩
      obtain ⟨sq, hsq0⟩ : ∃ x, x = j.seq := ⟨_, rfl⟩
      obtain ⟨nx, hnx0⟩ : ∃ x, x = j.next := ⟨_, rfl⟩
      obtain ⟨n, hn0⟩ : ∃ x, x = s.good.length := ⟨_, rfl⟩
      have hep : ep < 4294967296 := by rw [hep0]; exact HD.out.2.2.2.2.2.2.epoch
      have hsq : sq < 4294967296 := by rw [hsq0]; exact HD.out.2.2.2.2.2.2.seq
      have hnx : nx ≤ n := by rw [hnx0, hn0]; exact HD.out.2.2.2.2.2.2.next.2
      have hn10 : n ≤ 1024 := by omega
      have q2 := HJ.out.c2
      have q3 := HJ.out.c3
      have q4 := HJ.out.c4
      rw [← hep0] at q2
      rw [← hsq0] at q3
      rw [← hnx0] at q4
      have HEq := Lib.hid (And.intro hep0 (And.intro hsq0 (And.intro hnx0 hn0)))
      have HC := Lib.hid (And.intro q2 (And.intro q3 q4))
      have hli : ¬ (len : Int) > 65535 := by omega
      clear hdn hrn hop hep0 hsq0 hnx0 hn0 hlb hsm q2 q4
      go_enter Try.func16, Try.ntmps16
      go_wp2_with fail
      refine HRd.out.mono ?_
      rintro e w1 ⟨rfl, rfl⟩
      by_cases hbig : sq = 4294967295
      · have hbi : (sq : Int) = 4294967295 := by omega
        have HB := Lib.hid hbig
        clear hbig
        go_wp2_with fail
        go_ret
        obtain ⟨x1, x2, x3⟩ := HX.out w (Below.refl _ _)
        have hk : ApR j s b 2 j s := .big HDn.out.1 HDn.out.2 (.inr (by rw [← HEq.out.2.1, HB.out]; exact Nat.le_refl _))
        first | exact ⟨2, j, s, rfl, hk, x1, x2, x3⟩ | exact ⟨2, rfl, j, s, hk, x1, x2, x3⟩
      · have hbi : ((sq : Int) == 4294967295) = false := beq_false_of_ne (by omega)
        have HB := Lib.hid (show ¬ (65535 < b.length ∨ 4294967295 ≤ j.seq) by rw [HLb.out, ← HEq.out.2.1]; omega)
        have hsq2 : sq < 4294967295 := by omega
        clear hbig
        go_wp2_with fail
        refine (hP.sectors (len : Nat) w ⟨by omega, by omega⟩).mono ?_
        rintro e w2 ⟨rfl, hb2⟩
        rw [secsI_is (by omega)]
        obtain ⟨K, hK⟩ : ∃ K, K = secs len := ⟨_, rfl⟩
        have hK2 : K ≤ 200 := by rw [hK]; unfold secs; omega
        rw [← hK]
        have HK := Lib.hid (show K = secs b.length by rw [hK, HLb.out])
        have HB2 := Lib.hid hb2
        clear hb2 hK q3
        go_wp2_with fail
        refine (jroom_any hD (d_keep hD HD.out.1 HB2.out) (jr_keep HD.out.2.1 HB2.out) HD.out.2.2.2.2.2.2).mono ?_
        rintro e w4 ⟨rfl, hb4⟩
        rw [← HEq.out.2.2.2, ← HEq.out.2.2.1]
        have hB4 := below_keep HB2.out hb4
        have HB4 := Lib.hid hB4
        have HC4 := Lib.hid (And.intro (cell_keep hB4 HC.out.1) (cell_keep hB4 HC.out.2.1))
        have HA4 := Lib.hid (arg_keep HD.out.2.2.2.2.2.1 hB4)
        clear hb4 hB4
        obtain ⟨R, hR⟩ : ∃ R, R = n - nx := ⟨_, rfl⟩
        rw [← hR]
        by_cases hfull : R < K
        · have hfi : (R : Int) < K := by omega
          have HFu := Lib.hid (show s.good.length < j.next + secs b.length by rw [← HEq.out.2.2.2, ← HEq.out.2.2.1, ← HK.out]; omega)
          clear hfull hR
          go_wp2_with fail
          go_ret
          obtain ⟨x1, x2, x3⟩ := HX.out w4 HB4.out
          have hk : ApR j s b 5 j s := .full HDn.out.1 HDn.out.2 HB.out HFu.out
          first | exact ⟨5, j, s, rfl, hk, x1, x2, x3⟩ | exact ⟨5, rfl, j, s, hk, x1, x2, x3⟩
        · have hfi : ¬ (R : Int) < K := by omega
          have HFu := Lib.hid (show j.next + secs b.length ≤ s.good.length by rw [← HEq.out.2.2.2, ← HEq.out.2.2.1, ← HK.out]; omega)
          have hnK : nx + K ≤ n := by omega
          clear hfull hR
          go_wp2_with fail
          refine Rel.wp_region_rel (G := Rel.Gr) (Rel.tab [.is (.pointer (some ⟨pj, 0, none⟩)), .is (.pointer (some ⟨pj, 0, none⟩)), .is (.pointer (some ⟨pj, 2, none⟩)), .is (.int .i64 (ep : Nat)), .is (.pointer (some ⟨pj, 0, none⟩)), .is (.pointer (some ⟨pj, 0, none⟩)), .is (.pointer (some ⟨pj, 3, none⟩)), .is (.int .i64 (sq : Nat)), .is (.int .i64 ((sq + 1 : Nat) : Int)), .is (.slice aa len cap), kPk w4.heap.size (packB ep (sq + 1) b), kPk w4.heap.size (packB ep (sq + 1) b), kNew w4.heap.size (packB ep (sq + 1) b), .is (.int .i64 0), kNew w4.heap.size (packB ep (sq + 1) b), .is (.int .i64 0)]) (fun _ w => Below w4.heap.size w4 w) (by kernel_rfl) (by kernel_rfl) (by kernel_rfl) (by kernel_rfl) (fun w => Rel.gr_refl _) (below_drew _) ?_ ?_
          · refine ⟨?_, ?_, ?_, ?_, ?_, ?_, ?_, ?_, ?_, ?_, ?_, ?_, ?_, ?_, ?_, ?_, trivial⟩
            · intro L a w c
              refine .inl ⟨Rel.wanted_free (by kernel_rfl) _, ?_⟩
              exact Rel.wp_mv _ rfl ⟨_, rfl, Rel.gr_refl _, (c.old 0 (v := .pointer (some ⟨pj, 0, none⟩)) (by kernel_rfl) (by kernel_rfl)), c.inv⟩
            · intro L a w c
              refine .inl ⟨Rel.wanted_free (by kernel_rfl) _, ?_⟩
              exact Chn.wp_nc _ rfl (c.get 0 32 (by kernel_rfl)) ⟨_, rfl, Rel.gr_refl _, rfl, c.inv⟩
            · intro L a w c
              refine .inl ⟨Rel.wanted_free (by kernel_rfl) _, ?_⟩
              exact Chn.wp_fa _ _ _ rfl (c.get 1 33 (by kernel_rfl)) (by simp [go_sem]) ⟨_, rfl, Rel.gr_refl _, rfl, c.inv⟩
            · intro L a w c
              refine .inl ⟨Rel.wanted_free (by kernel_rfl) _, ?_⟩
              exact Rel.wp_ld _ _ rfl (c.get 2 34 (by kernel_rfl)) (run_ld_n (cell_keep c.inv HC4.out.1)) ⟨_, rfl, Rel.gr_refl _, rfl, c.inv⟩
            · intro L a w c
              refine .inl ⟨Rel.wanted_free (by kernel_rfl) _, ?_⟩
              exact Rel.wp_mv _ rfl ⟨_, rfl, Rel.gr_refl _, (c.old 0 (v := .pointer (some ⟨pj, 0, none⟩)) (by kernel_rfl) (by kernel_rfl)), c.inv⟩
            · intro L a w c
              refine .inl ⟨Rel.wanted_free (by kernel_rfl) _, ?_⟩
              exact Chn.wp_nc _ rfl (c.get 4 36 (by kernel_rfl)) ⟨_, rfl, Rel.gr_refl _, rfl, c.inv⟩
            · intro L a w c
              refine .inl ⟨Rel.wanted_free (by kernel_rfl) _, ?_⟩
              exact Chn.wp_fa _ _ _ rfl (c.get 5 37 (by kernel_rfl)) (by simp [go_sem]) ⟨_, rfl, Rel.gr_refl _, rfl, c.inv⟩
            · intro L a w c
              refine .inl ⟨Rel.wanted_free (by kernel_rfl) _, ?_⟩
              exact Rel.wp_ld _ _ rfl (c.get 6 38 (by kernel_rfl)) (run_ld_n (cell_keep c.inv HC4.out.2)) ⟨_, rfl, Rel.gr_refl _, rfl, c.inv⟩
            · intro L a w c
              refine .inl ⟨Rel.wanted_free (by kernel_rfl) _, ?_⟩
              exact Rel.wp_bo _ _ _ _ _ rfl (u := .int .i64 ((sq + 1 : Nat) : Int)) (c.get 7 39 (by kernel_rfl)) rfl (by simp [go_sem, IntKind.wrap_i64]; omega) ⟨_, rfl, Rel.gr_refl _, rfl, c.inv⟩
            · intro L a w c
              refine .inl ⟨Rel.wanted_free (by kernel_rfl) _, ?_⟩
              exact Rel.wp_mv _ rfl ⟨_, rfl, Rel.gr_refl _, (c.old 1 (v := .slice aa len cap) (by kernel_rfl) (by kernel_rfl)), c.inv⟩
            · intro L a w c
              refine .inl ⟨Rel.wanted_free (by kernel_rfl) _, ?_⟩
              refine Rel.wp_cl _ _ _ rfl Try.func35 (by kernel_rfl) ?_
              show Calls _ _ #[Rel.slot a 35, Rel.slot a 40, Rel.slot a 41] w _
              rw [show Rel.slot a 35 = .int .i64 (ep : Nat) from (c.get 3 35 (by kernel_rfl)), show Rel.slot a 40 = .int .i64 ((sq + 1 : Nat) : Int) from (c.get 8 40 (by kernel_rfl)), show Rel.slot a 41 = .slice aa len cap from (c.get 9 41 (by kernel_rfl))]
              refine (hP.pack ((ep : Nat) : Int) ((sq + 1 : Nat) : Int) aa len cap b w ⟨by omega, by omega⟩ ⟨by omega, by omega⟩ (arg_keep HA4.out c.inv) hl).mono ?_
              rintro e w' ⟨v, rfl, hn, hb⟩
              rw [packA_is hep (by omega)] at hn ⊢
              exact ⟨_, rfl, _, rfl, hb, ⟨v, rfl, new_le hn c.inv.size⟩, below_keep c.inv hb⟩
            · intro L a w c
              refine .inl ⟨Rel.wanted_free (by kernel_rfl) _, ?_⟩
              exact Rel.wp_mv _ rfl ⟨_, rfl, Rel.gr_refl _, (c.get 10 42 (by kernel_rfl)), c.inv⟩
            · intro L a w c
              refine .inl ⟨Rel.wanted_free (by kernel_rfl) _, ?_⟩
              obtain ⟨v', e', h'⟩ := c.get 11 31 (by kernel_rfl)
              exact Rel.wp_ex _ _ rfl e' (run_ex2 _ _ 0 _ rfl w) ⟨_, rfl, Rel.gr_refl _, h', c.inv⟩
            · intro L a w c
              refine .inl ⟨Rel.wanted_free (by kernel_rfl) _, ?_⟩
              obtain ⟨v', e', h'⟩ := c.get 11 31 (by kernel_rfl)
              exact Rel.wp_ex _ _ rfl e' (run_ex2 _ _ 1 _ rfl w) ⟨_, rfl, Rel.gr_refl _, rfl, c.inv⟩
            · intro L a w c
              refine .inl ⟨Rel.wanted_free (by kernel_rfl) _, ?_⟩
              exact Rel.wp_as _ rfl ⟨_, rfl, Rel.gr_refl _, (c.get 12 43 (by kernel_rfl)), c.inv⟩
            · intro L a w c
              refine .inl ⟨Rel.wanted_free (by kernel_rfl) _, ?_⟩
              exact Rel.wp_as _ rfl ⟨_, rfl, Rel.gr_refl _, (c.get 13 44 (by kernel_rfl)), c.inv⟩
          intro a w5 hbase hroom hdef hJ hV
          have s8 : Rel.slot a 8 = .int .i64 0 := hV 15 _ _ rfl rfl
          have k7 : (kNew w4.heap.size (packB ep (sq + 1) b) : Rel.Kd (Rel.Gr)).p w5 (Rel.slot a 7) := hV 14 _ _ rfl rfl
          rw [Chn.act_puts [32, 33, 34, 35, 36, 37, 38, 39, 40, 41, 42, 31, 43, 44, 7, 8] hbase hroom hdef (by kernel_rfl)]
          clear hbase hroom hdef hV
          simp only [List.foldl_cons, List.foldl_nil]
          generalize Rel.slot a 32 = u32 at *
          generalize Rel.slot a 33 = u33 at *
          generalize Rel.slot a 34 = u34 at *
          generalize Rel.slot a 35 = u35 at *
          generalize Rel.slot a 36 = u36 at *
          generalize Rel.slot a 37 = u37 at *
          generalize Rel.slot a 38 = u38 at *
          generalize Rel.slot a 39 = u39 at *
          generalize Rel.slot a 40 = u40 at *
          generalize Rel.slot a 41 = u41 at *
          generalize Rel.slot a 42 = u42 at *
          generalize Rel.slot a 31 = u31 at *
          generalize Rel.slot a 43 = u43 at *
          generalize Rel.slot a 44 = u44 at *
          generalize Rel.slot a 7 = u7 at *
          rw [s8]
          clear s8
          simp only [Act.put, List.setIfInBounds_toArray, List.set_cons_succ, List.set_cons_zero]
          obtain ⟨a3, c3, rfl, r1, r2, r3, r4, r5⟩ := k7
          have hA3 : Arg w5 a3 (packB ep (sq + 1) b).length c3 (secsB ep (sq + 1) b).flatten := by rw [secsB_flat]; exact ⟨rfl, r1, r2, r3, r4⟩
          have hB5 := below_keep HB4.out hJ
          have HW5 := Lib.hid (And.intro hB5 (And.intro hA3 (show ∀ q, a3 = some q → ¬ F q.block ∧ q.block < w5.heap.size from fun q hq => ⟨fun hf => by have := HD.out.2.2.1 _ hf; have := (r5 q hq).1; have := HB4.out.size; omega, (r5 q hq).2⟩)))
          obtain ⟨n3, hn3⟩ : ∃ n, n = (packB ep (sq + 1) b).length := ⟨_, rfl⟩
          rw [← hn3] at HW5 ⊢
          have HC5 := Lib.hid (And.intro (cell_keep hB5 HJ.out.c0) (cell_keep hB5 HC.out.2.2))
          have HWr := Lib.hid (fun (wx : World) (hb : Below w5.heap.size w5 wx) => (jwrite_any hD (d_keep hD (d_keep hD HD.out.1 HW5.out.1) hb) (fun k hk => Nat.lt_of_lt_of_le (HD.out.2.2.1 k hk) (below_keep HW5.out.1 hb).size) nx (secsB ep (sq + 1) b) secsB_32 (by rw [secsB_length, ← HK.out, ← HEq.out.2.2.2]; exact hnK) a3 n3 c3 (arg_keep HW5.out.2.1 hb) (fun q hq => ⟨(HW5.out.2.2 q hq).1, Nat.lt_of_lt_of_le (HW5.out.2.2 q hq).2 hb.size⟩)).mono (R' := fun e w' => ∃ v, e = .returned v ∧ PostWr D F p s nx (secsB ep (sq + 1) b) w5 v w') (by
            rintro e w' ⟨bo, t, rfl, hr, hd, hC⟩
            exact ⟨_, rfl, bo, t, rfl, hr, hD.mono hd fun k hk => hk.imp id fun h => ⟨Nat.le_trans hb.size h.1, h.2⟩, chg_trans (new_chg hb F) hC fun x hx => .inl hx⟩))
          clear hJ r1 r2 r3 r4 r5 hA3 hB5 hn3 hnK
          go_wp2_with fail
          refine Chn.wp_region_chain (fun idx => match idx with | 0 => some (.pointer (some ⟨pj, 0, none⟩)) | 1 => some (.pointer (some ⟨pj, 0, none⟩)) | 2 => some (.pointer (some ⟨pj, 0, none⟩)) | 3 => some (.pointer (some ⟨p, 0, none⟩)) | 4 => some (.pointer (some ⟨pj, 0, none⟩)) | 5 => some (.pointer (some ⟨pj, 0, none⟩)) | 6 => some (.pointer (some ⟨pj, 4, none⟩)) | 7 => some (.int .i64 (nx : Nat)) | 8 => some (.slice a3 n3 c3) | _ => none) [9, 10] (phiAp w5 (PostWr D F p s nx (secsB ep (sq + 1) b) w5)) (by kernel_rfl) (by kernel_rfl) (by kernel_rfl) (by kernel_rfl) (by kernel_rfl) (by decide) (by kernel_rfl) (rfl) ?_ ?_
          · refine ⟨?_, ?_, ?_, ?_, ?_, ?_, ?_, ?_, ?_, ?_, ?_, trivial⟩
            · intro a ww jj vs c hj0 hΦ
              have hj : jj ≤ 0 := Nat.le_trans hj0 (of_decide_eq_true (by kernel_rfl))
              refine .inl ⟨Rel.wanted_free (by kernel_rfl) _, ?_⟩
              exact Rel.wp_mv _ rfl ⟨congrArg (a.put _) (c.old 0 (v := .pointer (some ⟨pj, 0, none⟩)) (by kernel_rfl) (by kernel_rfl)), rfl⟩
            · intro a ww jj vs c hj0 hΦ
              have hj : jj ≤ 0 := Nat.le_trans hj0 (of_decide_eq_true (by kernel_rfl))
              refine .inl ⟨Rel.wanted_free (by kernel_rfl) _, ?_⟩
              exact Chn.wp_nc _ rfl (c.get 0 45 (by kernel_rfl) rfl) ⟨rfl, rfl⟩
            · intro a ww jj vs c hj0 hΦ
              have hj : jj ≤ 0 := Nat.le_trans hj0 (of_decide_eq_true (by kernel_rfl))
              refine .inl ⟨Rel.wanted_free (by kernel_rfl) _, ?_⟩
              exact Chn.wp_fa _ _ _ rfl (c.get 1 46 (by kernel_rfl) rfl) (by simp [go_sem]) ⟨rfl, rfl⟩
            · intro a ww jj vs c hj0 hΦ
              have hj : jj ≤ 0 := Nat.le_trans hj0 (of_decide_eq_true (by kernel_rfl))
              refine .inl ⟨Rel.wanted_free (by kernel_rfl) _, ?_⟩
              exact Rel.wp_ld _ _ rfl (c.get 2 47 (by kernel_rfl) rfl) (by rw [ap_first hj hΦ]; exact run_ld_dp (cell_keep (below_drew w5) HC5.out.1)) ⟨rfl, rfl⟩
            · intro a ww jj vs c hj0 hΦ
              have hj : jj ≤ 0 := Nat.le_trans hj0 (of_decide_eq_true (by kernel_rfl))
              refine .inl ⟨Rel.wanted_free (by kernel_rfl) _, ?_⟩
              exact Rel.wp_mv _ rfl ⟨congrArg (a.put _) (c.old 0 (v := .pointer (some ⟨pj, 0, none⟩)) (by kernel_rfl) (by kernel_rfl)), rfl⟩
            · intro a ww jj vs c hj0 hΦ
              have hj : jj ≤ 0 := Nat.le_trans hj0 (of_decide_eq_true (by kernel_rfl))
              refine .inl ⟨Rel.wanted_free (by kernel_rfl) _, ?_⟩
              exact Chn.wp_nc _ rfl (c.get 4 49 (by kernel_rfl) rfl) ⟨rfl, rfl⟩
            · intro a ww jj vs c hj0 hΦ
              have hj : jj ≤ 0 := Nat.le_trans hj0 (of_decide_eq_true (by kernel_rfl))
              refine .inl ⟨Rel.wanted_free (by kernel_rfl) _, ?_⟩
              exact Chn.wp_fa _ _ _ rfl (c.get 5 50 (by kernel_rfl) rfl) (by simp [go_sem]) ⟨rfl, rfl⟩
            · intro a ww jj vs c hj0 hΦ
              have hj : jj ≤ 0 := Nat.le_trans hj0 (of_decide_eq_true (by kernel_rfl))
              refine .inl ⟨Rel.wanted_free (by kernel_rfl) _, ?_⟩
              exact Rel.wp_ld _ _ rfl (c.get 6 51 (by kernel_rfl) rfl) (by rw [ap_first hj hΦ]; exact run_ld_n (cell_keep (below_drew w5) HC5.out.2)) ⟨rfl, rfl⟩
            · intro a ww jj vs c hj0 hΦ
              have hj : jj ≤ 0 := Nat.le_trans hj0 (of_decide_eq_true (by kernel_rfl))
              refine .inl ⟨Rel.wanted_free (by kernel_rfl) _, ?_⟩
              exact Rel.wp_mv _ rfl ⟨congrArg (a.put _) (c.old 7 (v := .slice a3 n3 c3) (by kernel_rfl) (by kernel_rfl)), rfl⟩
            · refine ⟨0, rfl, ?_⟩
              intro a ww c hΦ
              have h : (phiAp w5 (PostWr D F p s nx (secsB ep (sq + 1) b) w5)) 0 [] ww := hΦ
              clear hΦ
              refine ⟨Rel.wanted_free (by kernel_rfl) _, ?_⟩
              have hw : ww = w5.drew := h
              subst hw
              refine Rel.wp_cl _ [.tmp 48, .tmp 52, .tmp 53] _ rfl Try.func36 (by kernel_rfl) ?_
              show Calls _ _ #[Rel.slot a 48, Rel.slot a 52, Rel.slot a 53] w5.drew _
              rw [c.get 3 48 (by kernel_rfl) rfl, c.get 7 52 (by kernel_rfl) rfl, c.get 8 53 (by kernel_rfl) rfl]
              refine (HWr.out w5.drew (below_drew w5)).mono ?_
              rintro e9 w9 ⟨v, rfl, hv⟩
              exact ⟨_, rfl, _, rfl, v, rfl, hv⟩
            · refine ⟨1, rfl, ?_⟩
              intro a ww c hΦ
              have h : (phiAp w5 (PostWr D F p s nx (secsB ep (sq + 1) b) w5)) 1 [Rel.slot a 54] ww := hΦ
              clear hΦ
              refine ⟨Rel.wanted_free (by kernel_rfl) _, ?_⟩
              obtain ⟨v, hv, hR⟩ := h
              injection hv with hv _
              obtain ⟨bo, t, rfl, hr⟩ := hR
              exact Chn.wp_uo (u := .bool (!bo)) _ _ _ rfl hv (by simp [go_sem]) ⟨_, rfl, (show phiAp w5 _ 2 [Rel.slot a 54, .bool (!bo)] ww from ⟨bo, by rw [hv], ⟨bo, t, rfl, hr⟩⟩)⟩
          intro a w9 hbase hroom hdef hΦ hV
          have h : (phiAp w5 (PostWr D F p s nx (secsB ep (sq + 1) b) w5)) 2 [Rel.slot a 54, Rel.slot a 55] w9 := hΦ
          rw [Chn.act_puts [45, 46, 47, 48, 49, 50, 51, 52, 53, 54, 55] hbase hroom hdef (by kernel_rfl)]
          clear hbase hroom hdef hΦ hV
          simp only [List.foldl_cons, List.foldl_nil]
          generalize Rel.slot a 45 = u45 at *
          generalize Rel.slot a 46 = u46 at *
          generalize Rel.slot a 47 = u47 at *
          generalize Rel.slot a 48 = u48 at *
          generalize Rel.slot a 49 = u49 at *
          generalize Rel.slot a 50 = u50 at *
          generalize Rel.slot a 51 = u51 at *
          generalize Rel.slot a 52 = u52 at *
          generalize Rel.slot a 53 = u53 at *
          generalize Rel.slot a 54 = u54 at *
          generalize Rel.slot a 55 = u55 at *
          simp only [Act.put, List.setIfInBounds_toArray, List.set_cons_succ, List.set_cons_zero]
          obtain ⟨bo, hv, bo', t, hbo, hr, hd, hC⟩ := h
          simp only [List.cons.injEq, and_true] at hv
          obtain ⟨hv1, hv2⟩ := hv
          injection hbo with hbo
          subst hv1 hbo
          have hv2' := hv2
          clear hv2
          have hjr9 : Jr w9 G pj p j := jr_chg (jr_keep HD.out.2.1 HW5.out.1) hC fun k hg hf => HD.out.2.2.2.2.1 k hf hg
          have hC09 : Chg F w w9 := chg_trans (new_chg HW5.out.1 F) hC fun x hx => .inl hx
          have hdm : D w9 (More F w w9) p t := hD.mono hd fun k hk => hk.imp id fun h => ⟨Nat.le_trans HW5.out.1.size h.1, h.2⟩
          have hnM : ¬ More F w w9 pj := fun hm => hm.elim (fun hf => HD.out.2.2.2.2.1 pj hf HD.out.2.1.2) fun h => by have := HD.out.2.2.2.1 pj HD.out.2.1.2; omega
          have hset : ∀ (bl : List Value) (jn : JS) (wz : World), encJ p jn = bl → Arr.Blk wz pj 61 bl → Chg (fun k => k = pj) w9 wz → D wz (More F w wz) p t ∧ Jr wz G pj p jn ∧ Chg (fun k => F k ∨ G k) w wz := fun bl jn wz he hb hz =>
            ⟨hD.mono (hD.chg hdm hz fun k hk e => hnM (e ▸ hk)) fun k hk => more_up hz.size hk, ⟨by rw [he]; exact hb, HD.out.2.1.2⟩, chg_trans (chg_mono hC09 fun k _ hk => .inl hk) hz fun x hx => .inl (.inr (by rw [hx]; exact HD.out.2.1.2))⟩
          have HSet := Lib.hid hset
          have H9 := Lib.hid hjr9
          have hc9 := jr_cells hjr9
          rcases hr with ⟨rfl, hput⟩ | ⟨rfl, hhalf⟩
          all_goals
            first
              | obtain rfl : u55 = .bool false := hv2'
              | obtain rfl : u55 = .bool true := hv2'
          · have q3 := hc9.c3
            have q4 := hc9.c4
            rw [← HEq.out.2.1] at q3
            rw [← HEq.out.2.2.1] at q4
            have f3 := Arr.blk_frozen hjr9.1 3
            have b3 := Arr.blk_set hjr9.1 3 (.int .i64 ((sq : Int) + 1))
            have g4 := Arr.blk_cell b3 4
            have f4 := Arr.blk_frozen b3 4
            have hz := chg_set (set_chg w9 pj 3 (.int .i64 ((sq : Int) + 1))) (.inl rfl) 4 (.int .i64 ((nx : Int) + K))
            have HX9 := Lib.hid (hset _ { j with seq := j.seq + 1, next := j.next + secs b.length } _ rfl (by have := Arr.blk_set b3 4 (.int .i64 ((nx : Int) + K)); rw [show ((encJ p j).set 3 (.int .i64 ((sq : Int) + 1))).set 4 (.int .i64 ((nx : Int) + K)) = encJ p { j with seq := j.seq + 1, next := j.next + secs b.length } by unfold encJ; rw [HEq.out.2.1, HEq.out.2.2.1, HK.out]; rfl] at this; exact this) hz)
            have HPu := Lib.hid hput
            have g4' : (w9.setCell ⟨pj, 3, none⟩ (.int .i64 ((sq : Int) + 1))).cell? ⟨pj, 4, none⟩ = some (.int .i64 (nx : Nat)) := by rw [g4, HEq.out.2.2.1]; rfl
            have HG := Lib.hid (And.intro g4' f4)
            clear hd hC hjr9 hC09 hdm hnM hset hc9 b3 g4 f4 hz hput g4' q4
            go_upto_region 14 with fail
            obtain ⟨w10, hw10⟩ : ∃ x, x = w9.setCell ⟨pj, 3, none⟩ (.int .i64 ((sq : Int) + 1)) := ⟨_, rfl⟩
            rw [← hw10]
            rw [← hw10] at HG HX9
            have g4 := HG.out.1
            have f4 := HG.out.2
            clear hw10 q3 f3
            go_wp2_with fail
            go_ret
            have hk := ApR.done (j := j) (s := s) (b := b) t HDn.out.1 HDn.out.2 HB.out HFu.out (by rw [← HEq.out.1, ← HEq.out.2.1, ← HEq.out.2.2.1]; exact HPu.out)
            first | exact ⟨0, _, t, rfl, hk, HX9.out.1, HX9.out.2.1, HX9.out.2.2⟩ | exact ⟨0, rfl, _, t, hk, HX9.out.1, HX9.out.2.1, HX9.out.2.2⟩
          · have q6 := hc9.c6
            rw [HDn.out.1] at q6
            have f6 := Arr.blk_frozen hjr9.1 6
            have HX9 := Lib.hid (hset _ { j with down := true } _ rfl (by have := Arr.blk_set hjr9.1 6 (.bool true); exact this) (set_chg w9 pj 6 (.bool true)))
            have HPu := Lib.hid hhalf
            clear hd hC hjr9 hC09 hdm hnM hset hc9 hhalf
            go_wp2_with fail
            go_ret
            have hk : ApR j s b 10 { j with down := true } t := .down t HDn.out.1 HDn.out.2 HB.out HFu.out (by rw [← HEq.out.1, ← HEq.out.2.1, ← HEq.out.2.2.1]; exact HPu.out)
            first | exact ⟨10, _, t, rfl, hk, HX9.out.1, HX9.out.2.1, HX9.out.2.2⟩ | exact ⟨10, rfl, _, t, hk, HX9.out.1, HX9.out.2.1, HX9.out.2.2⟩

/-! ### No journal -/

theorem jcommit_nil (w : World) : Calls Try.prog 14 #[.pointer none] w fun e w' => e = .returned (.int .i64 1) ∧ Below w.heap.size w w' := by
  go_enter Try.func14, Try.ntmps14
  go_wp2_with fail
  refine (jready_nil w).mono ?_
  rintro e w1 ⟨rfl, rfl⟩
  go_wp2_with fail
  go_ret
  exact ⟨rfl, Below.refl _ _⟩
theorem jappend_nil (aa : Option Addr) (len cap : Nat) (w : World) : Calls Try.prog 16 #[.pointer none, .slice aa len cap] w fun e w' => e = .returned (.int .i64 1) ∧ Below w.heap.size w w' := by
  go_enter Try.func16, Try.ntmps16
  go_wp2_with fail
  refine (jready_nil w).mono ?_
  rintro e w1 ⟨rfl, rfl⟩
  go_wp2_with fail
  go_ret
  exact ⟨rfl, Below.refl _ _⟩
theorem jckpt_nil (aa : Option Addr) (len cap : Nat) (w : World) : Calls Try.prog 15 #[.pointer none, .slice aa len cap] w fun e w' => e = .returned (.int .i64 1) ∧ Below w.heap.size w w' := by
  go_enter Try.func15, Try.ntmps15
  go_wp2_with fail
  go_ret
  exact ⟨rfl, Below.refl _ _⟩

/-- THE LANDED JOURNAL KEEPS ALL ITS CONTRACTS, over any disk that does as it should. -/
theorem journal_prog (hD : Dsk.Prog D) (hP : Frm.Prog) (hN : NilSize) : JProg D Jr where
  chg := jr_chg
  format := fun h hF h100 slot aa len cap b hs hA hl _ => jformat_any hD hP h hF slot hs aa len cap b hA hl
  formatArg := fun h slot aa len cap b hs _ hpo => jformat_arg hD h slot hs aa len cap hpo
  formatNil := fun slot aa len cap b w hs _ => jformat_nil hN slot hs aa len cap w
  opens := fun h hF h100 slot hs => jopen_any hD hP h hF h100 slot hs
  checkpoint := fun h hj hF hG hap h100 hok hsee aa len cap b hA hl _ => jckpt_any hD hP h hj hF hG hap h100 hok hsee aa len cap b hA hl
  append := fun h hj hF hG hap h100 hok aa len cap b hA hl _ => jappend_any hD hP h hj hF hG hap hok aa len cap b hA hl
  commit := fun h hj hF hG hap _ _ => jcommit_any hD h hj hF hG hap
  seq := jseq_any
  epoch := jepoch_any
  room := fun h hj _ hok => jroom_any hD h hj hok
  checkpointNil := fun aa len cap b w _ => jckpt_nil aa len cap w
  appendNil := fun aa len cap b w _ => jappend_nil aa len cap w
  commitNil := jcommit_nil
  seqNil := jseq_nil
  epochNil := jepoch_nil
  roomNil := jroom_nil
end Go.Proofs.Ytdgfoldobofgoaa.Jrn
