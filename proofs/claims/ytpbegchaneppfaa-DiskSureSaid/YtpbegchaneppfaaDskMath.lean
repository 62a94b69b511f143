/- Disk: what a disk is, as plain data: sectors for good, sectors as they are, which are cached, in which order; and a log of what was written. -/
import Derived.Test.YtpbegchaneppfaaOctByte
namespace Go.Proofs.Ytpbegchaneppfaa.Dsk
set_option linter.unusedVariables false

abbrev Sec := List UInt8

theorem snocRec {α : Type} {motive : List α → Prop} (nil : motive []) (snoc : ∀ l x, motive l → motive (l ++ [x])) (l : List α) : motive l := by
  have key : ∀ n (l : List α), l.length = n → motive l := by
    intro n
    induction n with
    | zero => intro l h; rw [List.length_eq_zero_iff.1 h]; exact nil
    | succ n ih =>
      intro l h
      rcases List.eq_nil_or_concat l with rfl | ⟨l', x, rfl⟩
      · exact nil
      · rw [List.concat_eq_append] at h ⊢
        exact snoc l' x (ih l' (by simpa using h))
  exact key _ l rfl
theorem getD_at {α : Type} {l : List α} {i : Nat} {d : α} (h : i < l.length) : l.getD i d = l[i] := by simp [List.getD, h]
theorem getD_mem {α : Type} {l : List α} {i : Nat} {d : α} (h : i < l.length) : l.getD i d ∈ l := by rw [getD_at h]; exact List.getElem_mem _

/-- What is written last. -/
def logNow (g : List Sec) (log : List (Nat × Sec)) : List Sec := log.foldl (fun g x => g.set x.1 x.2) g
/-- Which sectors are cached, as each was first. -/
def logOrd (log : List (Nat × Sec)) : List Nat := log.foldl (fun o x => if x.1 ∈ o then o else o ++ [x.1]) []
theorem logNow_snoc (g : List Sec) (log : List (Nat × Sec)) (x : Nat × Sec) : logNow g (log ++ [x]) = (logNow g log).set x.1 x.2 := by unfold logNow; rw [List.foldl_append]; rfl
theorem logOrd_snoc (log : List (Nat × Sec)) (x : Nat × Sec) : logOrd (log ++ [x]) = if x.1 ∈ logOrd log then logOrd log else logOrd log ++ [x.1] := by unfold logOrd; rw [List.foldl_append]; rfl
theorem logNow_length (g : List Sec) (log : List (Nat × Sec)) : (logNow g log).length = g.length := by
  induction log using snocRec with
  | nil => rfl
  | snoc l x ih => rw [logNow_snoc, List.length_set, ih]
theorem mem_logOrd (log : List (Nat × Sec)) (i : Nat) : i ∈ logOrd log ↔ ∃ x ∈ log, x.1 = i := by
  induction log using snocRec with
  | nil => simp [logOrd]
  | snoc l x ih =>
    rw [logOrd_snoc]
    by_cases h : x.1 ∈ logOrd l
    · rw [if_pos h, ih]
      constructor
      · rintro ⟨y, hy, e⟩; exact ⟨y, List.mem_append_left _ hy, e⟩
      · rintro ⟨y, hy, e⟩
        rcases List.mem_append.1 hy with hy | hy
        · exact ⟨y, hy, e⟩
        · simp at hy; subst hy; subst e; exact ih.1 h
    · rw [if_neg h, List.mem_append, ih]
      constructor
      · rintro (⟨y, hy, e⟩ | hy)
        · exact ⟨y, List.mem_append_left _ hy, e⟩
        · simp at hy; exact ⟨x, by simp, hy.symm⟩
      · rintro ⟨y, hy, e⟩
        rcases List.mem_append.1 hy with hy | hy
        · exact .inl ⟨y, hy, e⟩
        · simp at hy; subst hy; exact .inr (by simp [e])
theorem logOrd_nodup (log : List (Nat × Sec)) : (logOrd log).Nodup := by
  induction log using snocRec with
  | nil => simp [logOrd]
  | snoc l x ih =>
    rw [logOrd_snoc]
    split
    · exact ih
    · rename_i h
      rw [List.nodup_append]
      exact ⟨ih, by simp, by intro a ha b hb; simp at hb; subst hb; intro e; exact h (e ▸ ha)⟩
theorem logNow_other (g : List Sec) (log : List (Nat × Sec)) (i : Nat) (h : i ∉ logOrd log) : (logNow g log)[i]? = g[i]? := by
  induction log using snocRec with
  | nil => rfl
  | snoc l x ih =>
    have hx : x.1 ≠ i := fun e => h ((mem_logOrd _ _).2 ⟨x, by simp, e⟩)
    have hl : i ∉ logOrd l := fun hm => h ((mem_logOrd _ _).2 (by obtain ⟨y, hy, e⟩ := (mem_logOrd _ _).1 hm; exact ⟨y, List.mem_append_left _ hy, e⟩))
    rw [logNow_snoc, List.getElem?_set_ne hx, ih hl]
/-- What was written there does not hang on what was there. -/
theorem logNow_same (g g' : List Sec) (hg : g.length = g'.length) (log : List (Nat × Sec)) (i : Nat) (h : i ∈ logOrd log) : (logNow g log)[i]? = (logNow g' log)[i]? := by
  induction log using snocRec with
  | nil => simp [logOrd] at h
  | snoc l x ih =>
    rw [logNow_snoc, logNow_snoc]
    by_cases hx : x.1 = i
    · subst hx
      rw [List.getElem?_set, List.getElem?_set, logNow_length, logNow_length, hg, if_pos rfl, if_pos rfl]
    · rw [List.getElem?_set_ne hx, List.getElem?_set_ne hx]
      refine ih ?_
      obtain ⟨y, hy, e⟩ := (mem_logOrd _ _).1 h
      rcases List.mem_append.1 hy with hy | hy
      · exact (mem_logOrd _ _).2 ⟨y, hy, e⟩
      · simp at hy; subst hy; exact absurd e hx

/-- A disk. -/
structure DS where
  good : List Sec
  now : List Sec
  order : List Nat
  fuse : Int

def burnt (f : Int) : Int := if 0 < f then f - 1 else f
def inR (i : Int) (n : Nat) : Prop := 0 ≤ i ∧ i < n
instance (i : Int) (n : Nat) : Decidable (inR i n) := by unfold inR; exact inferInstance

def DS.write (s : DS) (i : Int) (b : Sec) : Int × DS :=
  if ¬ (inR i s.good.length ∧ b.length = 32) then (1, s) else if s.fuse = 0 then (10, s) else
    (0, { s with now := s.now.set i.toNat b, order := if i.toNat ∈ s.order then s.order else s.order ++ [i.toNat], fuse := burnt s.fuse })
def DS.read (s : DS) (i : Int) : Sec × Int := if inR i s.good.length then (s.now.getD i.toNat [], 0) else ([], 1)
def DS.flush (s : DS) : Int × DS := if s.fuse = 0 then (10, s) else (0, { s with good := s.now, order := [], fuse := burnt s.fuse })

def bitOf (keep : Int) (n : Nat) : Bool := (keep % 18446744073709551616).toNat.testBit n
/-- How many bytes of cached sector number n are as they were written. -/
def many (keep torn cut : Int) (n : Nat) : Nat := if (n : Int) = torn then (if cut < 32 then cut.toNat else 32) else if n < 62 ∧ bitOf keep n = true then 32 else 0
def mix (m : Nat) (old new : Sec) : Sec := new.take m ++ old.drop m
/-- The first n cached sectors are settled. -/
def settle (keep torn cut : Int) (now : List Sec) (order : List Nat) : Nat → List Sec → List Sec
  | 0, g => g
  | n + 1, g => let g' := settle keep torn cut now order n g; let i := order.getD n 0; g'.set i (mix (many keep torn cut n) (g'.getD i []) (now.getD i []))
def DS.crash (s : DS) (keep torn cut : Int) : DS := let g := settle keep torn cut s.now s.order s.order.length s.good; { good := g, now := g, order := [], fuse := -1 }
def DS.new (n : Int) : DS := let g := List.replicate (if n < 1024 then n.toNat else 1024) (List.replicate 32 (0 : UInt8)); { good := g, now := g, order := [], fuse := -1 }

/-- What always holds. -/
structure DS.Ok (s : DS) : Prop where
  len : s.now.length = s.good.length
  small : s.good.length ≤ 1024
  good32 : ∀ l ∈ s.good, l.length = 32
  now32 : ∀ l ∈ s.now, l.length = 32
  ordLt : ∀ i ∈ s.order, i < s.good.length
  nodup : s.order.Nodup
  rest : ∀ i, i ∉ s.order → s.now[i]? = s.good[i]?

theorem many_le (keep torn cut : Int) (n : Nat) : many keep torn cut n ≤ 32 := by
  unfold many
  split
  · split <;> omega
  · split <;> omega
theorem mix_length {m : Nat} {old new : Sec} (h1 : old.length = 32) (h2 : new.length = 32) (hm : m ≤ 32) : (mix m old new).length = 32 := by
  unfold mix; rw [List.length_append, List.length_take, List.length_drop]; omega
theorem settle_length (keep torn cut : Int) (now : List Sec) (order : List Nat) (n : Nat) (g : List Sec) : (settle keep torn cut now order n g).length = g.length := by
  induction n with
  | zero => rfl
  | succ n ih => simp only [settle]; rw [List.length_set, ih]
theorem settle_32 (keep torn cut : Int) (now : List Sec) (order : List Nat) (g : List Sec) (hn : ∀ l ∈ now, l.length = 32) (hg : ∀ l ∈ g, l.length = 32) (hl : now.length = g.length) (ho : ∀ i ∈ order, i < g.length) :
    ∀ n, n ≤ order.length → ∀ l ∈ settle keep torn cut now order n g, l.length = 32
  | 0, _ => hg
  | n + 1, h => by
    intro l hm
    simp only [settle] at hm
    have ih := settle_32 keep torn cut now order g hn hg hl ho n (by omega)
    have hi : order.getD n 0 < g.length := by
      exact ho _ (getD_mem (by omega))
    rcases List.mem_or_eq_of_mem_set hm with hm | rfl
    · exact ih l hm
    · refine mix_length ?_ ?_ (many_le _ _ _ _)
      · refine ih _ ?_
        have hlt : order.getD n 0 < (settle keep torn cut now order n g).length := by rw [settle_length]; exact hi
        exact getD_mem hlt
      · refine hn _ ?_
        have hlt : order.getD n 0 < now.length := by omega
        exact getD_mem hlt

theorem new_ok (n : Int) : (DS.new n).Ok := by
  have hl : (if n < 1024 then n.toNat else 1024) ≤ 1024 := by split <;> omega
  refine ⟨rfl, by simpa [DS.new] using hl, ?_, ?_, by simp [DS.new], by simp [DS.new], by simp [DS.new]⟩ <;>
  · intro l h
    simp only [DS.new] at h
    rw [(List.mem_replicate.1 h).2, List.length_replicate]
theorem write_ok {s : DS} (h : s.Ok) (i : Int) (b : Sec) : (s.write i b).2.Ok := by
  unfold DS.write
  split
  · exact h
  · rename_i h1
    simp only [Decidable.not_not] at h1
    split
    · exact h
    · obtain ⟨⟨h2, h3⟩, h4⟩ := h1
      have hi : i.toNat < s.good.length := by have : 0 ≤ i := h2; omega
      refine ⟨by simp [h.len], h.small, h.good32, ?_, ?_, ?_, ?_⟩
      · intro l hm
        rcases List.mem_or_eq_of_mem_set hm with hm | rfl
        · exact h.now32 l hm
        · exact h4
      · intro j hj
        simp only at hj
        split at hj
        · exact h.ordLt j hj
        · rcases List.mem_append.1 hj with hj | hj
          · exact h.ordLt j hj
          · simp at hj; subst hj; exact hi
      · show (if _ then _ else _ : List Nat).Nodup
        split
        · exact h.nodup
        · rename_i hn
          rw [List.nodup_append]
          exact ⟨h.nodup, by simp, by intro a ha c hc; simp at hc; subst hc; intro e; exact hn (e ▸ ha)⟩
      · intro j hj
        simp only at hj
        have hj1 : j ∉ s.order ∧ j ≠ i.toNat := by
          split at hj
          · rename_i hm; exact ⟨hj, fun e => hj (e ▸ hm)⟩
          · exact ⟨fun hm => hj (List.mem_append_left _ hm), fun e => hj (by simp [e])⟩
        show (s.now.set i.toNat b)[j]? = _
        rw [List.getElem?_set_ne (Ne.symm hj1.2)]
        exact h.rest j hj1.1
theorem flush_ok {s : DS} (h : s.Ok) : s.flush.2.Ok := by
  unfold DS.flush
  split
  · exact h
  · exact ⟨rfl, by simpa [h.len] using h.small, h.now32, h.now32, by simp, by simp, by simp⟩
theorem crash_ok {s : DS} (h : s.Ok) (keep torn cut : Int) : (s.crash keep torn cut).Ok := by
  have h32 := settle_32 keep torn cut s.now s.order s.good h.now32 h.good32 h.len h.ordLt s.order.length (Nat.le_refl _)
  exact ⟨rfl, by simpa [DS.crash, settle_length] using h.small, h32, h32, by simp [DS.crash], by simp [DS.crash], by simp [DS.crash]⟩
theorem fuse_ok {s : DS} (h : s.Ok) (f : Int) : ({ s with fuse := f } : DS).Ok := ⟨h.len, h.small, h.good32, h.now32, h.ordLt, h.nodup, h.rest⟩

/-- What is not cached stays in a crash. -/
theorem settle_other (keep torn cut : Int) (now : List Sec) (order : List Nat) (g : List Sec) (i : Nat) (h : i ∉ order) : ∀ n, n ≤ order.length → (settle keep torn cut now order n g)[i]? = g[i]?
  | 0, _ => rfl
  | n + 1, hn => by
    simp only [settle]
    have : order.getD n 0 ∈ order := getD_mem (by omega)
    rw [List.getElem?_set_ne (fun e => h (by rw [← e]; exact this)), settle_other keep torn cut now order g i h n (by omega)]
/-- What is cached is settled once. -/
theorem settle_at (keep torn cut : Int) (now : List Sec) (order : List Nat) (g : List Sec) (hd : order.Nodup) (ho : ∀ i ∈ order, i < g.length) : ∀ n, n ≤ order.length → ∀ k (hk : k < order.length), (settle keep torn cut now order n g)[order[k]]? = if k < n then some (mix (many keep torn cut k) (g.getD order[k] []) (now.getD order[k] [])) else g[order[k]]?
  | 0, _, k, hk => by simp [settle]
  | n + 1, hn, k, hk => by
    have hnl : n < order.length := by omega
    have hgd : order.getD n 0 = order[n] := by simp [List.getD, List.getElem?_eq_getElem hnl]
    have ih := settle_at keep torn cut now order g hd ho n (by omega)
    simp only [settle]
    rw [hgd]
    by_cases he : k = n
    · subst he
      have hlt : order[k] < (settle keep torn cut now order k g).length := by rw [settle_length]; exact ho _ (List.getElem_mem _)
      rw [List.getElem?_set_self hlt, if_pos (by omega)]
      have h2 := ih k hk
      rw [if_neg (by omega)] at h2
      simp only [List.getD, h2]
    · have hne : order[n] ≠ order[k] := fun e => he ((List.getElem_inj hd).1 e).symm
      rw [List.getElem?_set_ne hne, ih k hk]
      by_cases h3 : k < n
      · rw [if_pos h3, if_pos (by omega)]
      · rw [if_neg h3, if_neg (by omega)]

/-! ### A log tells a disk -/

def ofLog (good : List Sec) (log : List (Nat × Sec)) (fuse : Int) : DS := { good, now := logNow good log, order := logOrd log, fuse }

end Go.Proofs.Ytpbegchaneppfaa.Dsk
