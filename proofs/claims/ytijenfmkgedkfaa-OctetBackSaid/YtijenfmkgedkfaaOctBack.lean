/- Octet: numbers and texts that come back, and that do not when they are cut off. -/
import Derived.Test.YtijenfmkgedkfaaOctOwn
namespace Go.Proofs.Ytijenfmkgedkfaa.Oct
open Go.RowKit
open Go.Sort
open Kit
set_option linter.unusedVariables false

/-- A number and a text. -/
abbrev Pr := Int × ByteArray
def encP (x : Pr) : List UInt8 := beB 8 (toU64 x.1) ++ (beB 2 x.2.size ++ x.2.data.toList)
def encPs (l : List Pr) : List UInt8 := l.flatMap encP
def Pr.ok (x : Pr) : Prop := -9223372036854775808 ≤ x.1 ∧ x.1 ≤ 9223372036854775807 ∧ x.2.size ≤ 300
theorem size_data (s : ByteArray) : s.data.toList.length = s.size := by rw [Array.length_toList]; rfl
theorem encP_length (x : Pr) : (encP x).length = 10 + x.2.size := by
  unfold encP; rw [List.length_append, List.length_append, beB_length, beB_length, size_data]; omega
theorem encPs_snoc (l : List Pr) (x : Pr) : encPs (l ++ [x]) = encPs l ++ encP x := by simp [encPs]
theorem encPs_cons (l : List Pr) (x : Pr) : encPs (x :: l) = encP x ++ encPs l := by simp [encPs]
theorem encPs_length : ∀ (l : List Pr), (∀ x ∈ l, x.ok) → (encPs l).length ≤ 310 * l.length
  | [], _ => by simp [encPs]
  | x :: l, h => by
    have h1 := encPs_length l (fun y hy => h y (List.mem_cons_of_mem _ hy))
    have h2 := (h x (List.mem_cons_self)).2.2
    rw [encPs_cons, List.length_append, encP_length, List.length_cons]; omega

/-- A pair is read from its bytes. -/
def rPair (s : RS) : RS := (rText 300 (rInt s).2).2
theorem rInt_enc (x : Pr) (hx : x.ok) (r : List UInt8) : rInt (some (encP x ++ r)) = (x.1, some (beB 2 x.2.size ++ x.2.data.toList ++ r)) := by
  have h8 : (beB 8 (toU64 x.1)).length = 8 := beB_length _ _
  have e : encP x ++ r = beB 8 (toU64 x.1) ++ (beB 2 x.2.size ++ x.2.data.toList ++ r) := by unfold encP; simp
  simp only [rInt]
  rw [e, if_pos (by rw [List.length_append, h8]; omega), List.take_left' h8, List.drop_left' h8, numB_be8 _ (toU64_lt _), toI_toU _ hx.1 hx.2.1]
theorem rText_enc (s : ByteArray) (hs : s.size ≤ 300) (r : List UInt8) : rText 300 (some (beB 2 s.size ++ s.data.toList ++ r)) = (s, some r) := by
  have h2 : (beB 2 s.size).length = 2 := beB_length _ _
  have e : beB 2 s.size ++ s.data.toList ++ r = beB 2 s.size ++ (s.data.toList ++ r) := by simp
  rw [e]
  have ht : (beB 2 s.size ++ (s.data.toList ++ r)).take 2 = beB 2 s.size := List.take_left' h2
  have hd : (beB 2 s.size ++ (s.data.toList ++ r)).drop 2 = s.data.toList ++ r := List.drop_left' h2
  have hn : numB ((beB 2 s.size ++ (s.data.toList ++ r)).take 2) = s.size := by rw [ht, numB_be2 _ (by omega)]
  have hl := size_data s
  rw [rText_ok ⟨by rw [List.length_append, h2]; omega, by rw [hn]; omega, by rw [hn, List.length_append, h2, List.length_append]; omega⟩, hn, hd, List.take_left' hl, List.drop_left' hl]

/-- All of them. -/
def rPairs : Nat → RS → RS
  | 0, s => s
  | k + 1, s => rPairs k (rPair s)
theorem rPairs_snoc (k : Nat) : ∀ s, rPairs (k + 1) s = rPair (rPairs k s) := by
  induction k with
  | zero => intro s; rfl
  | succ k ih => intro s; exact ih (rPair s)
theorem rPair_none : rPair none = none := rfl
theorem rPairs_none : ∀ k, rPairs k none = none
  | 0 => rfl
  | k + 1 => rPairs_none k
/-- A pair that is cut off is none. -/
theorem rPair_cut (x : Pr) (hx : x.ok) (t : List UInt8) (u : List UInt8) (h : t ++ u = encP x) (hu : u ≠ []) : rPair (some t) = none := by
  have hul : 0 < u.length := List.length_pos_iff.2 hu
  have hlen := congrArg List.length h
  rw [List.length_append, encP_length] at hlen
  by_cases h8 : 8 ≤ t.length
  · have e1 : rInt (some t) = (toI64 (numB (t.take 8)), some (t.drop 8)) := by simp only [rInt]; rw [if_pos h8]
    unfold rPair
    rw [e1]
    have e2 : t.drop 8 ++ u = beB 2 x.2.size ++ x.2.data.toList := by
      have h8' : (beB 8 (toU64 x.1)).length = 8 := beB_length _ _
      have := congrArg (List.drop 8) h
      rw [List.drop_append_of_le_length h8] at this
      rw [this]
      unfold encP
      rw [List.drop_left' h8']
    rw [rText_bad]
    intro l hl hh
    injection hl with hl
    subst hl
    have h2 : (beB 2 x.2.size).length = 2 := beB_length _ _
    have ht : (t.drop 8).take 2 = beB 2 x.2.size := by
      have := congrArg (List.take 2) e2
      rw [List.take_append_of_le_length hh.1, List.take_left' h2] at this
      exact this
    have h1 := hh.1
    rw [List.length_drop] at h1
    have := hh.2.2
    rw [ht, numB_be2 _ (by have := hx.2.2; omega), List.length_drop] at this
    omega
  · have e1 : rInt (some t) = (0, none) := by simp only [rInt]; rw [if_neg h8]
    unfold rPair
    rw [e1]; rfl
theorem rPair_ok (x : Pr) (hx : x.ok) (r : List UInt8) : rPair (some (encP x ++ r)) = some r := by
  unfold rPair
  rw [rInt_enc x hx r]
  simp only
  rw [rText_enc _ hx.2.2]
theorem rPairs_cut : ∀ (l : List Pr), (∀ x ∈ l, x.ok) → ∀ (t u : List UInt8), t ++ u = encPs l → u ≠ [] → rPairs l.length (some t) = none
  | [], _, t, u, h, hu => by
    simp [encPs] at h
    exact absurd h.2 hu
  | x :: l, hl, t, u, h, hu => by
    have hx := hl x (List.mem_cons_self)
    have hr := fun y hy => hl y (List.mem_cons_of_mem _ hy)
    rw [encPs_cons] at h
    show rPairs l.length (rPair (some t)) = none
    by_cases hlen : (encP x).length ≤ t.length
    · have e : t = encP x ++ t.drop (encP x).length := by
        have := congrArg (List.take (encP x).length) h
        rw [List.take_append_of_le_length hlen, List.take_left' rfl] at this
        rw [← this, List.length_take, Nat.min_eq_left hlen, List.take_append_drop]
      have e2 : t.drop (encP x).length ++ u = encPs l := by
        have := congrArg (List.drop (encP x).length) h
        rw [List.drop_append_of_le_length hlen, List.drop_left' rfl] at this
        exact this
      rw [e, rPair_ok x hx]
      exact rPairs_cut l hr _ u e2 hu
    · have hlt : t.length < (encP x).length := by omega
      have e : t ++ (encP x).drop t.length = encP x := by
        have := congrArg (List.take t.length) h
        rw [List.take_left' rfl, List.take_append_of_le_length (by omega)] at this
        rw [this]
        have h3 : ((encP x).take t.length) ++ (encP x).drop t.length = encP x := List.take_append_drop _ _
        rw [List.length_take, Nat.min_eq_left (by omega)]
        exact h3
      rw [rPair_cut x hx t _ e (by intro h0; have := congrArg List.length h0; rw [List.length_drop] at this; simp at this; omega)]
      exact rPairs_none _

/-! ### Arguments -/

def encI (n : Int) : List Value := [.int .i64 n]
def encS (s : ByteArray) : List Value := [.string s]
theorem encI_len (n : Int) : (encI n).length = 1 := rfl
theorem encS_len (s : ByteArray) : (encS s).length = 1 := rfl
theorem opens_ints {w : World} : Opn.Opens Try.prog w 42 (Opn.RSlice (Opn.RInt .i64) 1 w) := Opn.opens_slice Try.underlying42 cells_int (by omega) (Opn.opens_int Try.underlying3)
theorem opens_strs {w : World} : Opn.Opens Try.prog w 43 (Opn.RSlice Opn.RStr 1 w) := Opn.opens_slice Try.underlying43 cells_str (by omega) (Opn.opens_str Try.underlying9)
theorem ints_arg {w : World} {a : Option Addr} {len cap : Nat} {l : List Int} (h : Opn.RSlice (Opn.RInt .i64) 1 w [.slice a len cap] l) : l.length = len ∧ len ≤ cap ∧ cap ≤ maxLen ∧ (a = none → len = 0 ∧ cap = 0) ∧ Kit.Row encI 1 w a l ∧ ∀ x ∈ l, -9223372036854775808 ≤ x ∧ x ≤ 9223372036854775807 := by
  obtain ⟨a', len', cap', he, hl, hc, hm, hn, hcs⟩ := h
  simp at he
  obtain ⟨rfl, rfl, rfl⟩ := he
  refine ⟨hl, hc, hm, hn, Kit.row_of_cells (fun _ _ h => h.1) hcs, Kit.all_of_cells (p := fun x => -9223372036854775808 ≤ x ∧ x ≤ 9223372036854775807) (fun cs x h => ?_) hcs⟩
  have hw := h.2
  simp [Lit.wf, IntKind.min, IntKind.max, IntKind.signed, IntKind.bits] at hw
  omega
theorem strs_arg {w : World} {a : Option Addr} {len cap : Nat} {l : List ByteArray} (h : Opn.RSlice Opn.RStr 1 w [.slice a len cap] l) : l.length = len ∧ len ≤ cap ∧ cap ≤ maxLen ∧ (a = none → len = 0 ∧ cap = 0) ∧ Kit.Row encS 1 w a l ∧ ∀ x ∈ l, x.size ≤ maxLen := by
  obtain ⟨a', len', cap', he, hl, hc, hm, hn, hcs⟩ := h
  simp at he
  obtain ⟨rfl, rfl, rfl⟩ := he
  exact ⟨hl, hc, hm, hn, Kit.row_of_cells (fun _ _ h => h.1) hcs, Kit.all_of_cells (fun cs x h => h.2) hcs⟩

/-! ### One operation -/

theorem run_at_ints (b o n c k : Nat) (h : k < n) (w : World) : (Instr.indexAt 42 (.slice (some ⟨b, o, none⟩) n c) (.int .i64 k)).run Try.prog w = .ok (.pointer (some ⟨b, o + k, none⟩)) w := by
  simp [go_sem]
  omega
theorem run_at_strs (b o n c k : Nat) (h : k < n) (w : World) : (Instr.indexAt 43 (.slice (some ⟨b, o, none⟩) n c) (.int .i64 k)).run Try.prog w = .ok (.pointer (some ⟨b, o + k, none⟩)) w := by
  simp [go_sem]
  omega
theorem run_ld_int {w : World} {a : Addr} {n : Int} (h : w.cell? a = some (.int .i64 n)) : (Instr.loadAt 3 (.pointer (some a))).run Try.prog w = .ok (.int .i64 n) w := by
  simp [go_sem, h]
theorem run_ld_str {w : World} {a : Addr} {s : ByteArray} (h : w.cell? a = some (.string s)) : (Instr.loadAt 9 (.pointer (some a))).run Try.prog w = .ok (.string s) w := by
  simp [go_sem, h]
theorem run_ex0 (u v : Value) (w : World) : (Instr.extract (.tuple #[u, v]) 0).run Try.prog w = .ok u w := by simp [go_sem]
theorem run_ex1 (u v : Value) (w : World) : (Instr.extract (.tuple #[u, v]) 1).run Try.prog w = .ok v w := by simp [go_sem]

def kOwn (l : List UInt8) (n : Nat) : Rel.Kd Rel.Gr :=
  ⟨fun w v => ∃ g c, v = .slice (some ⟨g, 0, none⟩) n c ∧ n ≤ c ∧ RowB w (some ⟨g, 0, none⟩) l, fun w w' v hg ⟨g, c, h1, h2, h3⟩ => ⟨g, c, h1, h2, row_keep encB_len h3 hg⟩⟩
def kTxt (l : List UInt8) (n : Nat) : Rel.Kd Rel.Gr :=
  ⟨fun w v => ∃ g c, v = .tuple #[.slice (some ⟨g, 0, none⟩) n c, .int .i64 0] ∧ n ≤ c ∧ RowB w (some ⟨g, 0, none⟩) l, fun w w' v hg ⟨g, c, h1, h2, h3⟩ => ⟨g, c, h1, h2, row_keep encB_len h3 hg⟩⟩

/-! ### A Reader that two calls of a region move on -/

theorem below_drew' (w : World) (B : Nat) : Below B w w.drew := ⟨rfl, rfl, rfl, Nat.le_refl _, fun _ _ => rfl⟩
def JB (B : Nat) (wc : World) (p : Nat) (s0 s1 s2 : RS) (i j : Nat) (L : Array Bool) (w : World) : Prop :=
  Below B wc w ∧ Rdr B w p (cond (L.getD j false) s2 (cond (L.getD i false) s1 s0)) ∧ (L.getD j false = true → L.getD i false = true)
theorem set_far {L : Array Bool} {i k : Nat} (h : k ≠ i) : (L.setIfInBounds k true).getD i false = L.getD i false := by simp [h]
theorem set_it {L : Array Bool} {i : Nat} (h : L.getD i true = false) : (L.setIfInBounds i true).getD i false = true := by
  obtain ⟨hi, _⟩ := Reg.getD_false h
  simp [hi]
theorem free_it {L : Array Bool} {i : Nat} (h : L.getD i true = false) : L.getD i false = false := by
  obtain ⟨hi, he⟩ := Reg.getD_false h
  simp [hi, he]
theorem jset {B : Nat} {wc : World} {p i j k : Nat} {s0 s1 s2 : RS} {L : Array Bool} {w : World} (h : JB B wc p s0 s1 s2 i j L w) (hk : k ≠ i ∧ k ≠ j) : JB B wc p s0 s1 s2 i j (L.setIfInBounds k true) w := by
  unfold JB at h ⊢
  rw [set_far hk.1, set_far hk.2]; exact h
theorem jb_first {B : Nat} {wc : World} {p i j : Nat} {s0 s1 s2 : RS} {L : Array Bool} {w : World} (h : JB B wc p s0 s1 s2 i j L w) (hf : L.getD i true = false) : Rdr B w p s0 := by
  obtain ⟨_, h2, h3⟩ := h
  have hi := free_it hf
  cases hj : L.getD j false with
  | true => have := h3 hj; rw [hi] at this; cases this
  | false => rw [hj, hi] at h2; exact h2
theorem jb_first' {B : Nat} {wc : World} {p i j : Nat} {s0 s1 s2 : RS} {L : Array Bool} {w w' : World} (h : JB B wc p s0 s1 s2 i j L w) (hf : L.getD i true = false) (hij : i ≠ j) (hR : Rdr B w' p s1) (hg : w.grownBy w' (some p)) (hB : B ≤ wc.heap.size) : JB B wc p s0 s1 s2 i j (L.setIfInBounds i true) w' := by
  have hp := rdr_ge hR
  obtain ⟨h1, h2, h3⟩ := h
  have hi := free_it hf
  have hj : L.getD j false = false := by
    cases hj : L.getD j false with
    | true => have := h3 hj; rw [hi] at this; cases this
    | false => rfl
  refine ⟨h1.trans (grown_below hg (Nat.le_trans hB h1.size) hp), ?_, fun _ => set_it hf⟩
  rw [set_far hij, hj, set_it hf]; exact hR
theorem jb_next {B : Nat} {wc : World} {p i j : Nat} {s0 s1 s2 : RS} {L : Array Bool} {w : World} (h : JB B wc p s0 s1 s2 i j L w) (hf : L.getD j true = false) (hi : L.getD i false = true) : Rdr B w p s1 := by
  obtain ⟨_, h2, _⟩ := h
  rw [free_it hf, hi] at h2; exact h2
theorem jb_next' {B : Nat} {wc : World} {p i j : Nat} {s0 s1 s2 : RS} {L : Array Bool} {w w' : World} (h : JB B wc p s0 s1 s2 i j L w) (hf : L.getD j true = false) (hi : L.getD i false = true) (hij : i ≠ j) (hR : Rdr B w' p s2) (hg : w.grownBy w' (some p)) (hB : B ≤ wc.heap.size) : JB B wc p s0 s1 s2 i j (L.setIfInBounds j true) w' := by
  have hp := rdr_ge hR
  obtain ⟨h1, h2, h3⟩ := h
  refine ⟨h1.trans (grown_below hg (Nat.le_trans hB h1.size) hp), ?_, fun _ => by rw [set_far (Ne.symm hij)]; exact hi⟩
  rw [set_it hf]; exact hR
theorem jb_start {B : Nat} {wc : World} {p i j n : Nat} {s0 s1 s2 : RS} {w : World} (hb : Below B wc w) (h : Rdr B w p s0) (hB : B ≤ wc.heap.size) : JB B wc p s0 s1 s2 i j (Array.replicate n false) w.drew := by
  have e : ∀ m, (Array.replicate n false).getD m false = false := by
    intro m
    by_cases hm : m < n <;> simp [hm]
  refine ⟨hb.trans (below_drew' w B), ?_, fun h => by rw [e] at h; cases h⟩
  rw [e, e]
  exact rdr_keep h (below_drew w)
theorem jb_end {B : Nat} {wc : World} {p i j n : Nat} {s0 s1 s2 : RS} {w : World} (h : JB B wc p s0 s1 s2 i j (Array.replicate n true) w) (hj : j < n) : Below B wc w ∧ Rdr B w p s2 := by
  obtain ⟨h1, h2, _⟩ := h
  have e : (Array.replicate n true).getD j false = true := by simp [hj]
  rw [e] at h2
  exact ⟨h1, h2⟩
def Gt (_ _ : World) : Prop := True

theorem drop_cons (l : List Pr) (i : Nat) (x : Pr) (h : l[i]? = some x) : encPs (l.drop i) = encP x ++ encPs (l.drop (i + 1)) := by
  obtain ⟨hi, rfl⟩ := List.getElem?_eq_some_iff.1 h
  rw [List.drop_eq_getElem_cons hi, encPs_cons]

end Go.Proofs.Ytijenfmkgedkfaa.Oct
