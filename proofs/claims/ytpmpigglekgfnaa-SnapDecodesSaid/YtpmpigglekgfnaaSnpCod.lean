/- Codecs: what is written as bytes in one way alone, and read back (mathematics). -/
import Derived.Test.YtpmpigglekgfnaaByMath
namespace Go.Proofs.Ytpmpigglekgfnaa.Snp
open Oct
open Ent (int8 txt rInt_put rInt_got rText_put rText_got int8_len txt_len in_small)
open Tre (inI)
set_option linter.unusedVariables false

/-- What is written in one way alone, and read back. -/
structure Cod (α : Type) where
  enc : α → List UInt8
  dec : RS → α × RS
  ok : α → Prop
  put : ∀ x, ok x → ∀ r, dec (some (enc x ++ r)) = (x, some r)
  got : ∀ s x r, dec s = (x, some r) → s = some (enc x ++ r) ∧ ok x
theorem Cod.dead {α : Type} (A : Cod α) : (A.dec none).2 = none := by
  rcases h : A.dec none with ⟨x, s⟩
  cases s with
  | none => rfl
  | some r => cases (A.got _ _ _ h).1
theorem Cod.dead' {α : Type} (A : Cod α) {s s' : RS} {x : α} (h : A.dec s = (x, s')) (hs : s = none) : s' = none := by
  subst hs
  have := A.dead
  rwa [h] at this
def cInt : Cod Int := ⟨int8, rInt, inI, fun x h r => rInt_put h r, fun s x r h => rInt_got h⟩
def cTxt : Cod ByteArray := ⟨txt, rText 16, fun s => s.size ≤ 16, fun x h r => rText_put h r, fun s x r h => rText_got h⟩
/-- Two, one behind the other. -/
def cTwo {α β : Type} (A : Cod α) (B : Cod β) : Cod (α × β) where
  enc p := A.enc p.1 ++ B.enc p.2
  dec s := (((A.dec s).1, (B.dec (A.dec s).2).1), (B.dec (A.dec s).2).2)
  ok p := A.ok p.1 ∧ B.ok p.2
  put := by
    rintro ⟨x, y⟩ ⟨h1, h2⟩ r
    simp only at h1 h2 ⊢
    simp only [List.append_assoc, A.put x h1, B.put y h2]
  got := by
    rintro s ⟨x, y⟩ r h
    rcases h1 : A.dec s with ⟨x1, s1⟩
    rcases h2 : B.dec s1 with ⟨y1, s2⟩
    simp only [h1, h2] at h
    injection h with h3 h4
    injection h3 with e1 e2
    subst e1 e2 h4
    obtain ⟨g1, g2⟩ := B.got _ _ _ h2
    subst g1
    obtain ⟨g3, g4⟩ := A.got _ _ _ h1
    exact ⟨by rw [g3, List.append_assoc], g4, g2⟩
theorem two_of {α β : Type} {A : Cod α} {B : Cod β} {s s1 s2 : RS} {x : α} {y : β} (h1 : A.dec s = (x, s1)) (h2 : B.dec s1 = (y, s2)) : (cTwo A B).dec s = ((x, y), s2) := by
  simp only [cTwo, h1, h2]
/-- The same in other words. -/
def cMap {α β : Type} (A : Cod α) (f : α → β) (g : β → α) (h1 : ∀ x, f (g x) = x) (h2 : ∀ x, A.ok x → g (f x) = x) : Cod β where
  enc y := A.enc (g y)
  dec s := (f (A.dec s).1, (A.dec s).2)
  ok y := A.ok (g y)
  put := by
    intro y hy r
    simp only [A.put _ hy, h1]
  got := by
    intro s y r h
    rcases h3 : A.dec s with ⟨x, s1⟩
    simp only [h3] at h
    injection h with e1 e2
    subst e1 e2
    obtain ⟨g1, g2⟩ := A.got _ _ _ h3
    simp only [h2 _ g2]
    exact ⟨g1, g2⟩
theorem map_of {α β : Type} {A : Cod α} {f : α → β} {g : β → α} {h1 : ∀ x, f (g x) = x} {h2 : ∀ x, A.ok x → g (f x) = x} {s s1 : RS} {x : α} (h : A.dec s = (x, s1)) : (cMap A f g h1 h2).dec s = (f x, s1) := by
  simp only [cMap, h]
/-- So many, each put behind those that came before. -/
def rep {α : Type} (A : Cod α) : Nat → RS → List α × RS
  | 0, s => ([], s)
  | n + 1, s => ((rep A n s).1 ++ [(A.dec (rep A n s).2).1], (A.dec (rep A n s).2).2)
theorem rep_next {α : Type} {A : Cod α} {n : Nat} {s s1 s2 : RS} {l : List α} {x : α} (h1 : rep A n s = (l, s1)) (h2 : A.dec s1 = (x, s2)) : rep A (n + 1) s = (l ++ [x], s2) := by
  simp only [rep, h1, h2]
theorem rep_len {α : Type} (A : Cod α) : ∀ (n : Nat) (s : RS), (rep A n s).1.length = n
  | 0, s => rfl
  | n + 1, s => by
    have := rep_len A n s
    rw [rep, List.length_append, this]; rfl
theorem rep_put {α : Type} (A : Cod α) (l : List α) (h : ∀ x ∈ l, A.ok x) (r : List UInt8) : ∀ n, n ≤ l.length → rep A n (some (l.flatMap A.enc ++ r)) = (l.take n, some ((l.drop n).flatMap A.enc ++ r))
  | 0, _ => rfl
  | n + 1, hn => by
    have ih := rep_put A l h r n (by omega)
    have hd : l.drop n = l[n] :: l.drop (n + 1) := List.drop_eq_getElem_cons (by omega)
    have hx := A.put l[n] (h _ (List.getElem_mem _)) ((l.drop (n + 1)).flatMap A.enc ++ r)
    rw [hd, List.flatMap_cons, List.append_assoc] at ih
    rw [rep_next ih hx, List.take_succ_eq_append_getElem (by omega)]
theorem rep_got {α : Type} (A : Cod α) : ∀ (n : Nat) (s : RS) (l : List α) (r : List UInt8), rep A n s = (l, some r) → s = some (l.flatMap A.enc ++ r) ∧ l.length = n ∧ ∀ x ∈ l, A.ok x
  | 0, s, l, r, h => by
    injection h with h1 h2
    subst h1 h2
    exact ⟨rfl, rfl, fun x hx => by cases hx⟩
  | n + 1, s, l, r, h => by
    rcases h1 : rep A n s with ⟨k, s1⟩
    rcases h2 : A.dec s1 with ⟨x, s2⟩
    rw [rep_next h1 h2] at h
    injection h with e1 e2
    subst e1 e2
    obtain ⟨g1, g2⟩ := A.got _ _ _ h2
    subst g1
    obtain ⟨f1, f2, f3⟩ := rep_got A n s k _ h1
    refine ⟨?_, by simp [f2], fun y hy => ?_⟩
    · rw [f1, List.flatMap_append, List.flatMap_cons, List.flatMap_nil, List.append_nil, List.append_assoc]
    · rcases List.mem_append.1 hy with hy | hy
      · exact f3 y hy
      · rw [List.mem_singleton] at hy; subst hy; exact g2
theorem rep_dead {α : Type} (A : Cod α) : ∀ n, (rep A n none).2 = none
  | 0 => rfl
  | n + 1 => by
    rcases h1 : rep A n none with ⟨k, s1⟩
    have := rep_dead A n
    rw [h1] at this
    simp only at this
    rcases h2 : A.dec s1 with ⟨x, s2⟩
    rw [rep_next h1 h2]
    exact A.dead' h2 this
/-- So many. -/
def cRep {α : Type} (A : Cod α) (n : Nat) : Cod (List α) where
  enc l := l.flatMap A.enc
  dec s := rep A n s
  ok l := l.length = n ∧ ∀ x ∈ l, A.ok x
  put := by
    rintro l ⟨rfl, h2⟩ r
    have := rep_put A l h2 r l.length (Nat.le_refl _)
    rw [this, List.take_length, List.drop_length]
    rfl
  got := fun s l r h => rep_got A n s l r h
/-- How many; none, and spoilt, where they are too many. -/
def rMany (most : Nat) (s : RS) : Nat × RS := if (rInt s).1 < 0 ∨ (most : Int) < (rInt s).1 then (0, none) else ((rInt s).1.toNat, (rInt s).2)
theorem many_bad {most : Nat} {s s1 : RS} {n : Int} (h : rInt s = (n, s1)) (hn : n < 0 ∨ (most : Int) < n) : rMany most s = (0, none) := by
  unfold rMany; simp only [h]; rw [if_pos hn]
theorem many_ok {most : Nat} {s s1 : RS} {n : Nat} (h : rInt s = ((n : Int), s1)) (hn : n ≤ most) : rMany most s = (n, s1) := by
  unfold rMany; simp only [h]; rw [if_neg (by omega)]; rfl
theorem many_le (most : Nat) (s : RS) : (rMany most s).1 ≤ most := by
  unfold rMany
  rcases rInt s with ⟨n, s1⟩
  simp only
  split
  · exact Nat.zero_le _
  · simp only; omega
/-- A list: how many, then each. -/
def cLst {α : Type} (A : Cod α) (most : Nat) (hm : most ≤ 1000) : Cod (List α) where
  enc l := int8 l.length ++ l.flatMap A.enc
  dec s := rep A (rMany most s).1 (rMany most s).2
  ok l := l.length ≤ most ∧ ∀ x ∈ l, A.ok x
  put := by
    rintro l ⟨h1, h2⟩ r
    simp only [List.append_assoc, many_ok (rInt_put (in_small (show l.length ≤ 1000 by omega)) _) h1]
    have := rep_put A l h2 r l.length (Nat.le_refl _)
    rw [this, List.take_length, List.drop_length]
    rfl
  got := by
    intro s l r h
    rcases h1 : rInt s with ⟨n, s1⟩
    by_cases hn : n < 0 ∨ (most : Int) < n
    · simp only [many_bad h1 hn] at h
      have := rep_dead A 0
      rw [h] at this
      cases this
    · obtain ⟨m, rfl⟩ : ∃ m : Nat, n = m := ⟨n.toNat, by omega⟩
      simp only [many_ok h1 (show m ≤ most by omega)] at h
      obtain ⟨g1, g2, g3⟩ := rep_got A _ _ _ _ h
      subst g1
      obtain ⟨f1, f2⟩ := rInt_got h1
      refine ⟨?_, by omega, g3⟩
      rw [f1, g2, List.append_assoc]
theorem lst_of {α : Type} {A : Cod α} {most : Nat} {hm : most ≤ 1000} {s s1 s2 : RS} {n : Nat} {l : List α} (h1 : rMany most s = (n, s1)) (h2 : rep A n s1 = (l, s2)) : (cLst A most hm).dec s = (l, s2) := by
  simp only [cLst, h1, h2]

/-! ### All the bytes -/

def Cod.all {α : Type} (A : Cod α) (l : List UInt8) : Option α := match A.dec (some l) with | (x, some []) => some x | _ => none
theorem all_of {α : Type} {A : Cod α} {l : List UInt8} {x : α} {s : RS} (h : A.dec (some l) = (x, s)) : A.all l = if s = some [] then some x else none := by
  unfold Cod.all
  rw [h]
  cases s with
  | none => rfl
  | some r => cases r <;> rfl
theorem Cod.dec_enc {α : Type} (A : Cod α) {x : α} (h : A.ok x) : A.all (A.enc x) = some x := by
  have := A.put x h []
  rw [List.append_nil] at this
  rw [all_of this, if_pos rfl]
theorem Cod.enc_dec {α : Type} (A : Cod α) {l : List UInt8} {x : α} (h : A.all l = some x) : A.enc x = l ∧ A.ok x := by
  rcases hd : A.dec (some l) with ⟨y, s⟩
  rw [all_of hd] at h
  by_cases hs : s = some []
  · rw [if_pos hs] at h
    injection h with h
    subst h hs
    obtain ⟨h1, h2⟩ := A.got _ _ _ hd
    injection h1 with h1
    rw [List.append_nil] at h1
    exact ⟨h1.symm, h2⟩
  · rw [if_neg hs] at h; cases h
theorem Cod.inj {α : Type} (A : Cod α) {x y : α} (hx : A.ok x) (hy : A.ok y) (h : A.enc x = A.enc y) : x = y := by
  have h1 := A.dec_enc hx
  rw [h, A.dec_enc hy] at h1
  injection h1 with h1
  exact h1.symm
theorem Cod.more {α : Type} (A : Cod α) {x : α} (h : A.ok x) {r : List UInt8} (hr : r ≠ []) : A.all (A.enc x ++ r) = none := by
  rw [all_of (A.put x h r), if_neg (fun e => hr (by injection e))]
theorem Cod.less {α : Type} (A : Cod α) {x : α} (h : A.ok x) {k : Nat} (hk : k < (A.enc x).length) : A.all ((A.enc x).take k) = none := by
  cases hd : A.all ((A.enc x).take k) with
  | none => rfl
  | some y =>
    exfalso
    obtain ⟨h1, h2⟩ := A.enc_dec hd
    have e : A.enc x = A.enc y ++ (A.enc x).drop k := by rw [h1, List.take_append_drop]
    have p1 := A.put x h []
    have p2 := A.put y h2 ((A.enc x).drop k)
    rw [← e] at p2
    rw [List.append_nil, p2] at p1
    injection p1 with _ p1
    injection p1 with p1
    have := congrArg List.length p1
    rw [List.length_drop] at this
    simp at this
    omega
end Go.Proofs.Ytpmpigglekgfnaa.Snp
