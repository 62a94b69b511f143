/- Entry: a transaction's bytes, there and back (mathematics). -/
import Derived.Test.YtcoiebeehgeggaaByMath
import Derived.Test.YtcoiebeehgeggaaLgMem
namespace Go.Proofs.Ytcoiebeehgeggaa.Ent
open Oct
open Tre (inI)
open Led (Lg)
set_option linter.unusedVariables false

structure Tx where
  seq : Int
  time : Int
  kind : Int
  key : ByteArray
  name : ByteArray
  args : List Int
  legs : List Lg
def Tx.ok (t : Tx) : Prop := inI t.seq ∧ inI t.time ∧ inI t.kind ∧ (∀ x ∈ t.args, inI x) ∧ ∀ g ∈ t.legs, inI g.acct ∧ inI g.amt
def zeroT : Tx := ⟨0, 0, 0, ⟨#[]⟩, ⟨#[]⟩, [], []⟩
def two (g : Lg) : List Int := [g.acct, g.amt]
def flatG (l : List Lg) : List Int := l.flatMap two
def head3 (t : Tx) : List UInt8 := int8 t.seq ++ int8 t.time ++ int8 t.kind
def head5 (t : Tx) : List UInt8 := head3 t ++ txt t.key ++ txt t.name
def encT (t : Tx) : List UInt8 := head5 t ++ int8 t.args.length ++ ints t.args ++ int8 t.legs.length ++ ints (flatG t.legs)
def Fits (t : Tx) : Prop := t.key.size ≤ 16 ∧ t.name.size ≤ 16 ∧ t.args.length ≤ 8 ∧ t.legs.length ≤ 64
instance (t : Tx) : Decidable (Fits t) := by unfold Fits; infer_instance
def encE (t : Tx) : Int := if Fits t then 0 else 3
def encL (t : Tx) : List UInt8 := if Fits t then encT t else []
def pairs : List Int → List Lg
  | a :: b :: r => ⟨a, b⟩ :: pairs r
  | _ => []
def parse (s : RS) : Option (Tx × RS) :=
  match rInt s with
  | (a, s1) => match rInt s1 with
    | (b, s2) => match rInt s2 with
      | (c, s3) => match rText 16 s3 with
        | (k, s4) => match rText 16 s4 with
          | (m, s5) => match rInt s5 with
            | (na, s6) => if na < 0 ∨ 8 < na then none else match rInts na.toNat s6 with
              | (ag, s7) => match rInt s7 with
                | (nl, s8) => if nl < 0 ∨ 64 < nl then none else match rInts (2 * nl.toNat) s8 with
                  | (ls, s9) => some (⟨a, b, c, k, m, ag, pairs ls⟩, s9)
def decT (l : List UInt8) : Option Tx := match parse (some l) with | some (t, some []) => some t | _ => none
def decE (l : List UInt8) : Int := if (decT l).isSome then 0 else 3
def decV (l : List UInt8) : Tx := (decT l).getD zeroT

/-! ### One by one -/

theorem flatG_len : ∀ l : List Lg, (flatG l).length = 2 * l.length
  | [] => rfl
  | g :: l => by
    have := flatG_len l
    unfold flatG at this ⊢
    rw [List.flatMap_cons, List.length_append, this, List.length_cons]; simp [two]; omega
theorem pairs_flat : ∀ l : List Lg, pairs (flatG l) = l
  | [] => rfl
  | g :: l => by
    have := pairs_flat l
    show pairs (g.acct :: g.amt :: flatG l) = _
    rw [pairs, this]
theorem flat_pairs : ∀ (n : Nat) (l : List Int), l.length = 2 * n → flatG (pairs l) = l ∧ (pairs l).length = n
  | 0, l, h => by
    obtain rfl : l = [] := List.eq_nil_of_length_eq_zero (by omega)
    exact ⟨rfl, rfl⟩
  | n + 1, [], h => by simp at h
  | n + 1, [a], h => by simp at h; omega
  | n + 1, a :: b :: l, h => by
    obtain ⟨h1, h2⟩ := flat_pairs n l (by simp at h; omega)
    refine ⟨?_, by rw [pairs, List.length_cons, h2]⟩
    show a :: b :: flatG (pairs l) = _
    rw [h1]
/-! ### All -/

theorem parse_of {s s1 s2 s3 s4 s5 s6 s7 s8 s9 : RS} {a b c na nl : Int} {k m : ByteArray} {ag ls : List Int} (h1 : rInt s = (a, s1)) (h2 : rInt s1 = (b, s2)) (h3 : rInt s2 = (c, s3)) (h4 : rText 16 s3 = (k, s4)) (h5 : rText 16 s4 = (m, s5)) (h6 : rInt s5 = (na, s6)) (h7 : rInts na.toNat s6 = (ag, s7)) (h8 : rInt s7 = (nl, s8)) (h9 : rInts (2 * nl.toNat) s8 = (ls, s9)) :
    parse s = if na < 0 ∨ 8 < na then none else if nl < 0 ∨ 64 < nl then none else some (⟨a, b, c, k, m, ag, pairs ls⟩, s9) := by
  unfold parse
  rw [h1]; simp only; rw [h2]; simp only; rw [h3]; simp only; rw [h4]; simp only; rw [h5]; simp only; rw [h6]; simp only; rw [h7]; simp only; rw [h8]; simp only; rw [h9]
theorem flat_in {l : List Lg} (h : ∀ g ∈ l, inI g.acct ∧ inI g.amt) : ∀ x ∈ flatG l, inI x := by
  intro x hx
  obtain ⟨g, hg, hx⟩ := List.mem_flatMap.1 hx
  unfold two at hx
  rcases List.mem_cons.1 hx with e | hx
  · subst e; exact (h g hg).1
  · rw [List.mem_singleton] at hx
    subst hx; exact (h g hg).2
theorem parse_put {t : Tx} (hf : Fits t) (hok : t.ok) (r : List UInt8) : parse (some (encT t ++ r)) = some (t, some r) := by
  obtain ⟨f1, f2, f3, f4⟩ := hf
  obtain ⟨k1, k2, k3, k4, k5⟩ := hok
  have e : encT t ++ r = int8 t.seq ++ (int8 t.time ++ (int8 t.kind ++ (txt t.key ++ (txt t.name ++ (int8 t.args.length ++ (ints t.args ++ (int8 t.legs.length ++ (ints (flatG t.legs) ++ r)))))))) := by
    unfold encT head5 head3
    simp only [List.append_assoc]
  have h7 : ∀ q, rInts ((t.args.length : Nat) : Int).toNat (some (ints t.args ++ q)) = (t.args, some q) := fun q => by
    rw [Int.toNat_natCast]; exact rInts_put k4 q
  have h9 : rInts (2 * ((t.legs.length : Nat) : Int).toNat) (some (ints (flatG t.legs) ++ r)) = (flatG t.legs, some r) := by
    rw [Int.toNat_natCast, ← flatG_len]; exact rInts_put (flat_in k5) r
  have hp := parse_of (rInt_put k1 _) (rInt_put k2 _) (rInt_put k3 _) (rText_put f1 _) (rText_put f2 _) (rInt_put (n := t.args.length) (in_small (by omega)) _) (h7 _) (rInt_put (n := t.legs.length) (in_small (by omega)) _) h9
  rw [e, hp, if_neg (by omega), if_neg (by omega), pairs_flat]
theorem parse_got {s : RS} {t : Tx} {r : List UInt8} (h : parse s = some (t, some r)) : s = some (encT t ++ r) ∧ Fits t ∧ t.ok := by
  rcases h1 : rInt s with ⟨a, s1⟩
  rcases h2 : rInt s1 with ⟨b, s2⟩
  rcases h3 : rInt s2 with ⟨c, s3⟩
  rcases h4 : rText 16 s3 with ⟨k, s4⟩
  rcases h5 : rText 16 s4 with ⟨m, s5⟩
  rcases h6 : rInt s5 with ⟨na, s6⟩
  rcases h7 : rInts na.toNat s6 with ⟨ag, s7⟩
  rcases h8 : rInt s7 with ⟨nl, s8⟩
  rcases h9 : rInts (2 * nl.toNat) s8 with ⟨ls, s9⟩
  rw [parse_of h1 h2 h3 h4 h5 h6 h7 h8 h9] at h
  by_cases c1 : na < 0 ∨ 8 < na
  · rw [if_pos c1] at h; cases h
  rw [if_neg c1] at h
  by_cases c2 : nl < 0 ∨ 64 < nl
  · rw [if_pos c2] at h; cases h
  rw [if_neg c2] at h
  injection h with h
  injection h with ht hr
  subst hr
  obtain ⟨g9, l9, i9⟩ := rInts_got h9
  subst g9
  obtain ⟨g8, i8⟩ := rInt_got h8
  subst g8
  obtain ⟨g7, l7, i7⟩ := rInts_got h7
  subst g7
  obtain ⟨g6, i6⟩ := rInt_got h6
  subst g6
  obtain ⟨g5, i5⟩ := rText_got h5
  subst g5
  obtain ⟨g4, i4⟩ := rText_got h4
  subst g4
  obtain ⟨g3, i3⟩ := rInt_got h3
  subst g3
  obtain ⟨g2, i2⟩ := rInt_got h2
  subst g2
  obtain ⟨g1, i1⟩ := rInt_got h1
  obtain ⟨p1, p2⟩ := flat_pairs nl.toNat ls l9
  subst ht
  have ea : ((ag.length : Nat) : Int) = na := by rw [l7]; omega
  have el : (((pairs ls).length : Nat) : Int) = nl := by rw [p2]; omega
  refine ⟨?_, ⟨i4, i5, by simp only; omega, by simp only; omega⟩, i1, i2, i3, i7, fun g hg => ?_⟩
  · rw [g1]
    unfold encT head5 head3
    simp only [List.append_assoc]
    rw [ea, el, p1]
  · have : ∀ x ∈ flatG (pairs ls), inI x := by rw [p1]; exact i9
    exact ⟨this _ (List.mem_flatMap.2 ⟨g, hg, by simp [two]⟩), this _ (List.mem_flatMap.2 ⟨g, hg, by simp [two]⟩)⟩
theorem dec_enc {t : Tx} (hf : Fits t) (hok : t.ok) : decT (encT t) = some t := by
  have h := parse_put hf hok []
  rw [List.append_nil] at h
  unfold decT
  rw [h]
theorem enc_dec {l : List UInt8} {t : Tx} (h : decT l = some t) : encT t = l ∧ Fits t ∧ t.ok := by
  unfold decT at h
  split at h
  · rename_i u hp
    injection h with h
    subst h
    obtain ⟨h1, h2⟩ := parse_got hp
    injection h1 with h1
    rw [List.append_nil] at h1
    exact ⟨h1.symm, h2⟩
  · cases h
theorem dec_more {t : Tx} (hf : Fits t) (hok : t.ok) (x : UInt8) : decT (encT t ++ [x]) = none := by
  unfold decT
  rw [parse_put hf hok [x]]
theorem enc_some (t : Tx) : 1 ≤ (encT t).length := by
  unfold encT head5 head3
  simp only [List.length_append, int8_len]
  omega
theorem dec_less {t : Tx} (hf : Fits t) (hok : t.ok) : decT ((encT t).take ((encT t).length - 1)) = none := by
  cases hd : decT ((encT t).take ((encT t).length - 1)) with
  | none => rfl
  | some u =>
    exfalso
    obtain ⟨h1, h2, h3⟩ := enc_dec hd
    have hl := enc_some t
    have e : encT t = encT u ++ (encT t).drop ((encT t).length - 1) := by rw [h1, List.take_append_drop]
    have p1 := parse_put hf hok []
    have p2 := parse_put h2 h3 ((encT t).drop ((encT t).length - 1))
    rw [← e] at p2
    rw [List.append_nil, p2] at p1
    injection p1 with p1
    injection p1 with _ p1
    injection p1 with p1
    have := congrArg List.length p1
    rw [List.length_drop] at this
    simp at this
    omega
theorem enc_inj {t u : Tx} (hf : Fits t) (hok : t.ok) (hf2 : Fits u) (hok2 : u.ok) (h : encT t = encT u) : t = u := by
  have h1 := dec_enc hf hok
  rw [h, dec_enc hf2 hok2] at h1
  injection h1 with h1
  exact h1.symm
end Go.Proofs.Ytcoiebeehgeggaa.Ent
