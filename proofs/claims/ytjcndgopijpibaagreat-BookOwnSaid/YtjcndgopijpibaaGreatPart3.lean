/- Common to the claims of this seat, part 3: texts that were written one by one, laid behind one another. -/
import Derived.Test.YtjcndgopijpibaaGreatPart1
import Derived.Test.YtjcndgopijpibaaGreatPart2
/- Draw: what is drawn on which allocations, as plain data: the order of drawing, what is taken, and what it comes to. -/
namespace Go.Proofs.YtjcndgopijpibaaGreat.Drw
open Mon
open Tre (Al path)
open Led (Lg)
set_option linter.unusedVariables false
def openA (a : Al) (now : Int) : Bool := decide (0 < a.avail) && decide (a.from' ≤ now) && decide (now < a.till)
def cand (al : List Al) (f now : Int) (i : Nat) : Bool := match al[i]? with | some a => decide (a.fund = f) && openA a now | none => false
def tillOf (al : List Al) (i : Nat) : Int := match al[i]? with | some a => a.till | none => 0
def availOf (al : List Al) (i : Nat) : Int := match al[i]? with | some a => a.avail | none => 0
def before (al : List Al) (i j : Nat) : Prop := tillOf al i < tillOf al j ∨ (tillOf al i = tillOf al j ∧ i < j)
def nextStep (al : List Al) (f now : Int) (done : Nat → Bool) (b : Option Nat) (i : Nat) : Option Nat :=
  if !done i && cand al f now i && (match b with | none => true | some b => decide (tillOf al i < tillOf al b)) then some i else b
def nextTo (al : List Al) (f now : Int) (done : Nat → Bool) (n : Nat) : Option Nat := (List.range n).foldl (nextStep al f now done) none
def nextD (al : List Al) (f now : Int) (done : Nat → Bool) : Option Nat := nextTo al f now done al.length
theorem nextTo_succ (al : List Al) (f now : Int) (done : Nat → Bool) (n : Nat) : nextTo al f now done (n + 1) = nextStep al f now done (nextTo al f now done n) n := by
  unfold nextTo
  rw [List.range_succ, List.foldl_append]; rfl
theorem cand_lt {al : List Al} {f now : Int} {i : Nat} (h : cand al f now i = true) : i < al.length := by
  unfold cand at h
  cases ha : al[i]? with
  | none => rw [ha] at h; cases h
  | some a => exact (List.getElem?_eq_some_iff.1 ha).1
theorem nextTo_spec (al : List Al) (f now : Int) (done : Nat → Bool) : ∀ n, (nextTo al f now done n = none → ∀ i, i < n → cand al f now i = true → done i = true) ∧ (∀ b, nextTo al f now done n = some b → b < n ∧ cand al f now b = true ∧ done b = false ∧ ∀ i, i < n → cand al f now i = true → done i = false → i = b ∨ before al b i)
  | 0 => ⟨fun _ i hi => by omega, fun b hb => by cases hb⟩
  | n + 1 => by
    obtain ⟨h1, h2⟩ := nextTo_spec al f now done n
    rw [nextTo_succ]
    unfold nextStep
    cases hb : nextTo al f now done n with
    | none =>
      have h1' := h1 hb
      by_cases hc : (!done n && cand al f now n) = true
      · rw [if_pos (by simpa using hc)]
        have hc' : done n = false ∧ cand al f now n = true := by simpa using hc
        refine ⟨(fun h => by cases h), fun b hb2 => ?_⟩
        injection hb2 with hb2
        subst hb2
        refine ⟨by omega, hc'.2, hc'.1, fun i hi hci hdi => ?_⟩
        by_cases hin : i = n
        · exact .inl hin
        · have := h1' i (by omega) hci
          rw [this] at hdi; cases hdi
      · rw [if_neg (by simpa using hc)]
        refine ⟨fun _ i hi hci => ?_, fun b hb2 => by cases hb2⟩
        by_cases hin : i = n
        · subst hin
          rw [hci] at hc
          simpa using hc
        · exact h1' i (by omega) hci
    | some b0 =>
      obtain ⟨g1, g2, g3, g4⟩ := h2 b0 hb
      by_cases hc : (!done n && cand al f now n && decide (tillOf al n < tillOf al b0)) = true
      · rw [if_pos hc]
        have hc' : (done n = false ∧ cand al f now n = true) ∧ tillOf al n < tillOf al b0 := by simpa using hc
        refine ⟨(fun h => by cases h), fun b hb2 => ?_⟩
        injection hb2 with hb2
        subst hb2
        refine ⟨by omega, hc'.1.2, hc'.1.1, fun i hi hci hdi => ?_⟩
        by_cases hin : i = n
        · exact .inl hin
        · right
          rcases g4 i (by omega) hci hdi with rfl | h
          · exact .inl hc'.2
          · rcases h with h | ⟨h, _⟩
            · exact .inl (by omega)
            · exact .inl (by omega)
      · rw [if_neg hc]
        refine ⟨(fun h => by cases h), fun b hb2 => ?_⟩
        injection hb2 with hb2
        subst hb2
        refine ⟨by omega, g2, g3, fun i hi hci hdi => ?_⟩
        by_cases hin : i = n
        · subst hin
          right
          have : ¬ tillOf al i < tillOf al b0 := by
            intro hlt
            exact hc (by rw [hdi, hci]; simp [hlt])
          by_cases he : tillOf al b0 = tillOf al i
          · exact .inr ⟨he, g1⟩
          · exact .inl (by omega)
        · exact g4 i (by omega) hci hdi
theorem nextD_none {al : List Al} {f now : Int} {done : Nat → Bool} (h : nextD al f now done = none) : ∀ i, cand al f now i = true → done i = true := fun i hc => (nextTo_spec al f now done al.length).1 h i (cand_lt hc) hc
theorem nextD_some {al : List Al} {f now : Int} {done : Nat → Bool} {b : Nat} (h : nextD al f now done = some b) : cand al f now b = true ∧ done b = false ∧ ∀ i, cand al f now i = true → done i = false → i = b ∨ before al b i := by
  obtain ⟨_, h2, h3, h4⟩ := (nextTo_spec al f now done al.length).2 b h
  exact ⟨h2, h3, fun i hc hd => h4 i (cand_lt hc) hc hd⟩
def sel (al : List Al) (f now : Int) : Nat → (Nat → Bool) → List Nat
  | 0, _ => []
  | k + 1, done => match nextD al f now done with
    | none => []
    | some i => i :: sel al f now k (fun j => done j || j == i)
def left (al : List Al) (f now : Int) (done : Nat → Bool) : Nat := ((List.range al.length).filter fun i => cand al f now i && !done i).length
theorem left_next {al : List Al} {f now : Int} {done : Nat → Bool} {b : Nat} (h : nextD al f now done = some b) : left al f now (fun j => done j || j == b) < left al f now done := by
  obtain ⟨h1, h2, _⟩ := nextD_some h
  unfold left
  have hb : b ∈ (List.range al.length).filter fun i => cand al f now i && !done i := by
    rw [List.mem_filter, List.mem_range]
    exact ⟨cand_lt h1, by rw [h1, h2]; rfl⟩
  have e : ((List.range al.length).filter fun i => cand al f now i && !(done i || i == b)) = ((List.range al.length).filter fun i => cand al f now i && !done i).filter fun i => i != b := by
    rw [List.filter_filter]
    congr 1
    funext i
    cases cand al f now i <;> cases done i <;> cases hi : i == b <;> simp [bne, hi]
  rw [e]
  have : ∀ (l : List Nat), b ∈ l → (l.filter fun i => i != b).length < l.length := by
    intro l
    induction l with
    | nil => intro h; cases h
    | cons x l ih =>
      intro hx
      rw [List.filter_cons]
      by_cases hxb : x = b
      · rw [if_neg (by simp [hxb]), List.length_cons]
        exact Nat.lt_succ_of_le (List.length_filter_le _ _)
      · rw [if_pos (by simp [hxb]), List.length_cons, List.length_cons]
        rcases List.mem_cons.1 hx with rfl | hx
        · exact absurd rfl hxb
        · exact Nat.succ_lt_succ (ih hx)
  exact this _ hb
theorem sel_fuel {al : List Al} {f now : Int} : ∀ (n : Nat) {k : Nat} {done : Nat → Bool}, left al f now done ≤ n → left al f now done ≤ k → sel al f now n done = sel al f now k done
  | 0, 0, _, _, _ => rfl
  | 0, k + 1, done, h1, _ => by
    rw [sel, sel]
    cases h : nextD al f now done with
    | none => rfl
    | some b => have := left_next h; omega
  | n + 1, 0, done, _, h2 => by
    rw [sel, sel]
    cases h : nextD al f now done with
    | none => rfl
    | some b => have := left_next h; omega
  | n + 1, k + 1, done, h1, h2 => by
    rw [sel, sel]
    cases h : nextD al f now done with
    | none => rfl
    | some b =>
      have := left_next h
      simp only
      rw [sel_fuel n (k := k) (by omega) (by omega)]
theorem left_le (al : List Al) (f now : Int) (done : Nat → Bool) : left al f now done ≤ al.length := by
  unfold left
  have := List.length_filter_le (fun i => cand al f now i && !done i) (List.range al.length)
  rwa [List.length_range] at this
def ordF (al : List Al) (f now : Int) (done : Nat → Bool) : List Nat := sel al f now al.length done
theorem ordF_none {al : List Al} {f now : Int} {done : Nat → Bool} (h : nextD al f now done = none) : ordF al f now done = [] := by
  unfold ordF
  cases al.length with
  | zero => rfl
  | succ n => rw [sel, h]
theorem ordF_some {al : List Al} {f now : Int} {done : Nat → Bool} {b : Nat} (h : nextD al f now done = some b) : ordF al f now done = b :: ordF al f now (fun j => done j || j == b) := by
  unfold ordF
  have hb := cand_lt (nextD_some h).1
  have hl := left_next h
  have hle := left_le al f now done
  obtain ⟨m, hm⟩ : ∃ m, al.length = m + 1 := ⟨al.length - 1, by omega⟩
  conv => lhs; rw [hm]
  rw [sel, h]
  simp only
  rw [sel_fuel m (k := al.length) (by omega) (by omega)]
theorem ordF_spec {al : List Al} {f now : Int} : ∀ (n : Nat) {done : Nat → Bool}, left al f now done ≤ n → (∀ i, i ∈ ordF al f now done ↔ cand al f now i = true ∧ done i = false) ∧ (ordF al f now done).Pairwise (before al) := by
  intro n
  induction n with
  | zero =>
    intro done hn
    cases h : nextD al f now done with
    | none =>
      rw [ordF_none h]
      refine ⟨fun i => ⟨(fun h => by cases h), fun ⟨h1, h2⟩ => ?_⟩, List.Pairwise.nil⟩
      rw [nextD_none h i h1] at h2; cases h2
    | some b => have := left_next h; omega
  | succ n ih =>
    intro done hn
    cases h : nextD al f now done with
    | none =>
      rw [ordF_none h]
      refine ⟨fun i => ⟨(fun h => by cases h), fun ⟨h1, h2⟩ => ?_⟩, List.Pairwise.nil⟩
      rw [nextD_none h i h1] at h2; cases h2
    | some b =>
      obtain ⟨g1, g2, g3⟩ := nextD_some h
      have hl := left_next h
      obtain ⟨i1, i2⟩ := ih (done := fun j => done j || j == b) (by omega)
      rw [ordF_some h]
      refine ⟨fun i => ?_, List.Pairwise.cons (fun j hj => ?_) i2⟩
      · rw [List.mem_cons, i1]
        constructor
        · rintro (rfl | ⟨h1, h2⟩)
          · exact ⟨g1, g2⟩
          · have : done i = false ∧ ¬ i = b := by simpa using h2
            exact ⟨h1, this.1⟩
        · rintro ⟨h1, h2⟩
          by_cases hib : i = b
          · exact .inl hib
          · exact .inr ⟨h1, by simp [h2, hib]⟩
      · obtain ⟨h1, h2⟩ := (i1 j).1 hj
        have h3 : done j = false ∧ ¬ j = b := by simpa using h2
        rcases g3 j h1 h3.1 with rfl | h4
        · exact absurd rfl h3.2
        · exact h4
def none0 : Nat → Bool := fun _ => false
def order (al : List Al) (now : Int) (p : List Int) : List Nat := p.flatMap fun f => ordF al f now none0
def takeD (al : List Al) : List Nat → Int → List Dw
  | [], _ => []
  | i :: r, a => if a ≤ 0 then [] else ⟨i, min (availOf al i) a⟩ :: takeD al r (a - min (availOf al i) a)
def restD (al : List Al) : List Nat → Int → Int
  | [], a => a
  | i :: r, a => if a ≤ 0 then a else restD al r (a - min (availOf al i) a)
def drawsE (fl : List Tre.Fd) (al : List Al) (f amount now : Int) : Int :=
  if path fl f = [] then 4 else if amount < 0 then 1 else if 0 < restD al (order al now (path fl f)) amount then 7 else 0
def drawsL (fl : List Tre.Fd) (al : List Al) (f amount now : Int) : List Dw := if drawsE fl al f amount now = 0 then takeD al (order al now (path fl f)) amount else []
def chargeTo : List Dw → Int → Option (List Dw × Int)
  | [], a => some ([], a)
  | d :: r, a => if d.amt < 0 then none else match chargeTo r (a - min d.amt a) with
    | none => none
    | some (l, b) => some (⟨d.alloc, min d.amt a⟩ :: l, b)
def chargeE (l : List Dw) (a : Int) : Int := if a < 0 then 1 else match chargeTo l a with | none => 7 | some (_, b) => if 0 < b then 7 else 0
def chargeL (l : List Dw) (a : Int) : List Dw := if chargeE l a = 0 then (match chargeTo l a with | none => [] | some (k, _) => k) else []
def amtsD (l : List Dw) : List Int := l.map (·.amt)
def legOf (d c : Dw) (f t r : Int) : List Lg :=
  if d.amt = 0 then [] else [⟨f + 3 * d.alloc, -d.amt⟩] ++ (if c.amt ≠ 0 then [⟨t + 3 * d.alloc, c.amt⟩] else []) ++ (if d.amt - c.amt ≠ 0 then [⟨r + 3 * d.alloc, d.amt - c.amt⟩] else [])
def legsD : List Dw → List Dw → Int → Int → Int → List Lg
  | d :: l, c :: k, f, t, r => legOf d c f t r ++ legsD l k f t r
  | _, _, _, _, _ => []
theorem cand_fund {al : List Al} {f now : Int} {i : Nat} (h : cand al f now i = true) : ∃ a, al[i]? = some a ∧ a.fund = f ∧ 0 < a.avail := by
  unfold cand at h
  cases ha : al[i]? with
  | none => rw [ha] at h; cases h
  | some a =>
    rw [ha] at h
    simp [openA] at h
    exact ⟨a, rfl, h.1, h.2.1.1⟩
theorem pathN_desc (l : List Tre.Fd) : ∀ f : Nat, (Tre.pathN l f).Pairwise (· > ·) := by
  intro f
  induction f using Nat.strongRecOn with
  | _ f ih =>
    cases hx : l[f]? with
    | none => rw [Tre.pathN_none (List.getElem?_eq_none_iff.1 hx)]; exact List.Pairwise.nil
    | some x =>
      rw [Tre.pathN_some hx]
      by_cases hp : 0 ≤ x.par ∧ x.par < (f : Int)
      · rw [if_pos hp]
        refine List.Pairwise.cons (fun k hk => ?_) (ih _ (by omega))
        have := (Tre.pathN_lt l _ k hk).1
        omega
      · rw [if_neg hp]
        exact List.Pairwise.cons (fun k hk => by cases hk) List.Pairwise.nil
theorem path_desc (l : List Tre.Fd) (f : Int) : (path l f).Pairwise (· > ·) := by
  by_cases hf : f < 0
  · rw [Tre.path_neg hf]; exact List.Pairwise.nil
  · obtain ⟨m, rfl⟩ : ∃ m : Nat, f = m := ⟨f.toNat, by omega⟩
    rw [Tre.path_nat, List.pairwise_map]
    exact (pathN_desc l m).imp fun h => by omega
end Go.Proofs.YtjcndgopijpibaaGreat.Drw
/- Draw: legs of any amounts: they go round (mathematics). -/
namespace Go.Proofs.YtjcndgopijpibaaGreat.Drw
open Go.RowKit
open Led (Lg)
set_option linter.unusedVariables false
def legW (d c : Dw) (f t r : Int) : List Lg :=
  if d.amt = 0 then [] else [⟨f + 3 * d.alloc, wrap64 (-d.amt)⟩] ++ (if c.amt ≠ 0 then [⟨t + 3 * d.alloc, c.amt⟩] else []) ++ (if wrap64 (d.amt - c.amt) ≠ 0 then [⟨r + 3 * d.alloc, wrap64 (d.amt - c.amt)⟩] else [])
def legsW : List Dw → List Dw → Int → Int → Int → List Lg
  | d :: l, c :: k, f, t, r => legW d c f t r ++ legsW l k f t r
  | _, _, _, _, _ => []
theorem wrap_in {x : Int} (h1 : -9223372036854775808 ≤ x) (h2 : x ≤ 9223372036854775807) : wrap64 x = x := by unfold wrap64; omega
theorem legW_of {d c : Dw} (f t r : Int) (h1 : -9223372036854775808 < d.amt ∧ d.amt ≤ 9223372036854775807) (h2 : -9223372036854775808 ≤ d.amt - c.amt ∧ d.amt - c.amt ≤ 9223372036854775807) : legW d c f t r = legOf d c f t r := by
  unfold legW legOf
  rw [wrap_in (x := -d.amt) (by omega) (by omega), wrap_in h2.1 h2.2]
theorem legsW_of (f t r : Int) : ∀ {l m : List Dw}, (∀ (k : Nat) (d c : Dw), l[k]? = some d → m[k]? = some c → (-9223372036854775808 < d.amt ∧ d.amt ≤ 9223372036854775807) ∧ -9223372036854775808 ≤ d.amt - c.amt ∧ d.amt - c.amt ≤ 9223372036854775807) → legsW l m f t r = legsD l m f t r
  | [], m, h => by cases m <;> rfl
  | d :: l, [], h => rfl
  | d :: l, c :: m, h => by
    have h0 := h 0 d c rfl rfl
    rw [legsW, legsD, legW_of f t r h0.1 h0.2, legsW_of f t r fun k d c hd hc => h (k + 1) d c hd hc]
end Go.Proofs.YtjcndgopijpibaaGreat.Drw
/- Pool: nodes as the bits of a number (mathematics). -/
namespace Go.Proofs.YtjcndgopijpibaaGreat.Poo
open Tre (inI)
set_option linter.unusedVariables false
def lo (m : Int) : Nat := (m % 4294967296).toNat
def cntTo (U : Nat) : Nat → Nat
  | 0 => 0
  | j + 1 => cntTo U j + (if U.testBit j then 1 else 0)
def cnt (U : Nat) : Nat := cntTo U 32
def pick (U n : Nat) : Nat → Nat
  | 0 => 0
  | j + 1 => pick U n j + (if U.testBit j = true ∧ cntTo U j < n then 2 ^ j else 0)
def allN (n : Int) : Nat := 2 ^ (min 32 n.toNat) - 1
theorem cnt_le (U : Nat) : ∀ j, cntTo U j ≤ j
  | 0 => Nat.le_refl _
  | j + 1 => by
    have := cnt_le U j
    rw [cntTo]
    split <;> omega
theorem pick_lt (U n : Nat) : ∀ j, pick U n j < 2 ^ j
  | 0 => by rw [pick]; decide
  | j + 1 => by
    have := pick_lt U n j
    rw [pick, Nat.pow_succ]
    split <;> omega
theorem lo_bit (m : Int) {k : Nat} (hk : k < 32) : (lo m).testBit k = decide (m / 2 ^ k % 2 = 1) := by
  rw [Nat.testBit_eq_decide_div_mod_eq, decide_eq_decide]
  have e : m / 2 ^ k % 2 = ((lo m / 2 ^ k % 2 : Nat) : Int) := by
    have h1 : ((lo m : Nat) : Int) = m % 4294967296 := by unfold lo; omega
    rw [Int.natCast_emod, Int.natCast_ediv, Int.natCast_pow, h1]
    have h3 : m = 4294967296 * (m / 4294967296) + m % 4294967296 := by omega
    generalize m % 4294967296 = r at h3 ⊢
    generalize m / 4294967296 = q at h3
    subst h3
    obtain ⟨d, hd⟩ : ∃ d, 32 = k + 1 + d := ⟨31 - k, by omega⟩
    have e32 : (4294967296 : Int) = 2 ^ k * (2 * 2 ^ d) := by
      rw [show (4294967296 : Int) = 2 ^ 32 from rfl, hd, Int.pow_add, Int.pow_add, Int.mul_assoc]; rfl
    have hp : (2 : Int) ^ k ≠ 0 := Int.ne_of_gt (Int.pow_pos (by decide))
    rw [e32, Int.mul_assoc, Int.add_comm, Int.add_mul_ediv_left _ _ hp, Int.mul_assoc, Int.add_mul_emod_self_left]
    rfl
  rw [e]
  omega
end Go.Proofs.YtjcndgopijpibaaGreat.Poo
/- Job: where a job is, which nodes are had, whether one may be (mathematics). -/
namespace Go.Proofs.YtjcndgopijpibaaGreat.Job
open Drw (Dw)
set_option linter.unusedVariables false
def runB (j : Jb) : Bool := j.state == 3
def firstId (id : Int) : List Jb → Option Nat
  | [] => none
  | j :: l => if j.id = id then some 0 else (firstId id l).map (· + 1)
def findI (l : List Jb) (id : Int) : Int := match firstId id l with | none => -1 | some k => (k : Nat)
def orW (x y : Int) : Int := bits BinOp.or IntKind.i64 x y
def maskS (a : Int) (j : Jb) : Int := if runB j = true then orW a j.mask else a
def maskL (l : List Jb) : Int := l.foldl maskS 0
def drawsOk (l : List Dw) : Bool := decide (l.length ≤ 16) && l.all (fun d => decide (0 ≤ d.alloc ∧ d.alloc ≤ 15 ∧ 1 ≤ d.amt ∧ d.amt ≤ 1152921504606846976)) && decide ((l.map (·.alloc)).Nodup)
def goodJ (j : Jb) : Bool :=
  decide (1 ≤ j.id ∧ 0 ≤ j.fund ∧ j.fund ≤ 7 ∧ 1 ≤ j.nodes ∧ j.nodes ≤ 32 ∧ 1 ≤ j.wall ∧ j.wall ≤ 1048576 ∧ 0 ≤ j.qos ∧ j.qos ≤ 7 ∧ 0 ≤ j.prio ∧ j.prio ≤ 1048576 ∧ 0 ≤ j.price ∧ j.price ≤ 1099511627776) &&
  (if j.state = 1 ∨ j.state = 2 then decide (j.start = 0 ∧ j.mask = 0 ∧ j.used = 0 ∧ j.draws.length = 0)
   else decide (0 ≤ j.start ∧ j.start ≤ 1099511627776) && drawsOk j.draws &&
     (if j.state = 3 then decide (0 ≤ j.mask ∧ j.mask < 4294967296 ∧ (Poo.cnt (Poo.lo j.mask) : Int) = j.nodes ∧ j.used = 0) else decide (j.state = 4 ∧ j.mask = 0 ∧ 0 ≤ j.used ∧ j.used ≤ j.wall)))
end Go.Proofs.YtjcndgopijpibaaGreat.Job
/- Money: what nodes cost (mathematics). -/
namespace Go.Proofs.YtjcndgopijpibaaGreat.Mon
def costN (a b c : Int) : Int := if a < 0 ∨ b < 0 ∨ c < 0 then 0 else mulN [a, b, c]
def costE (a b c : Int) : Int := if a < 0 ∨ b < 0 ∨ c < 0 then 1 else mulE [a, b, c]
theorem cost_neg {a b c : Int} (h : a < 0 ∨ b < 0 ∨ c < 0) : costN a b c = 0 ∧ costE a b c = 1 := by unfold costN costE; rw [if_pos h, if_pos h]; exact ⟨rfl, rfl⟩
theorem cost_pos {a b c : Int} (h : ¬ (a < 0 ∨ b < 0 ∨ c < 0)) : costN a b c = mulN [a, b, c] ∧ costE a b c = mulE [a, b, c] := by unfold costN costE; rw [if_neg h, if_neg h]; exact ⟨rfl, rfl⟩
end Go.Proofs.YtjcndgopijpibaaGreat.Mon
/- Book: what transactions do (mathematics). -/
namespace Go.Proofs.YtjcndgopijpibaaGreat.Bok
open Go.RowKit
open Go.Proofs.YtjcndgopijpibaaGreat.Mon (costN costE)
open Tre (inI Al Fd goodB over)
open Rte (Rt goodR)
open Led (Lg postE postW postA)
open Drw (Dw drawsE drawsL chargeE chargeL legsW)
open Job (Jb findI goodJ maskL)
open Poo (cnt lo)
open Ent (Tx)
open Snp (Sn zeroS)
set_option linter.unusedVariables false
def many (k : Int) : Int :=
  if k = 1 ∨ k = 3 ∨ k = 4 ∨ k = 12 ∨ k = 13 ∨ k = 14 then 2 else if k = 2 then 4 else if k = 5 ∨ k = 6 then 3 else if k = 7 then 6 else if k = 8 ∨ k = 9 ∨ k = 10 ∨ k = 11 then 1 else if k = 15 then 0 else -1
def ag (a : List Int) (i : Nat) : Int := a.getD i 0
def pair (f t a : Int) : List Lg := [⟨f, -a⟩, ⟨t, a⟩]
def someD (l : List Dw) : List Dw := l.filter fun d => decide (d.amt ≠ 0)
def inL {α : Type} (l : List α) (i : Int) : Bool := decide (0 ≤ i ∧ i < (l.length : Int))
def bankE (s : Sn) (k : Int) (nm : ByteArray) (a : List Int) : Int :=
  if k = 1 then (if 8 ≤ s.funds.length then 14 else if goodB (s.funds ++ [⟨nm, ag a 0, ag a 1⟩]) then 0 else 1)
  else if k = 2 then (if inL s.funds (ag a 0) then (if ag a 1 < 0 ∨ ag a 2 ≤ ag a 1 ∨ 1099511627776 < ag a 2 ∨ ag a 3 < 1 then 1 else if 16 ≤ s.allocs.length then 14 else 0) else 4)
  else if k = 6 then (if 16 ≤ s.rates.length then 14 else if goodR (s.rates ++ [⟨ag a 0, ag a 1, ag a 2⟩]) then 0 else 1)
  else if inL s.allocs (ag a 0) then
    (if k = 5 then (if inL s.allocs (ag a 1) then (if ag a 0 = ag a 1 ∨ ag a 2 < 1 then 1 else 0) else 4)
     else if ag a 1 < 1 then 1 else 0)
  else 4
def bankS (s : Sn) (k : Int) (nm : ByteArray) (a : List Int) : Sn :=
  if k = 1 then { s with funds := s.funds ++ [⟨nm, ag a 0, ag a 1⟩] }
  else if k = 2 then { s with allocs := s.allocs ++ [⟨ag a 0, ag a 1, ag a 2, 0, 0, 0⟩] }
  else if k = 6 then { s with rates := s.rates ++ [⟨ag a 0, ag a 1, ag a 2⟩] }
  else s
def bankL (s : Sn) (k : Int) (a : List Int) : List Lg :=
  if k = 1 then []
  else if k = 2 then pair 0 (1 + 3 * (s.allocs.length : Int)) (ag a 3)
  else if k = 6 then []
  else if k = 5 then pair (1 + 3 * ag a 0) (1 + 3 * ag a 1) (ag a 2)
  else if k = 3 then pair 0 (1 + 3 * ag a 0) (ag a 1)
  else pair (1 + 3 * ag a 0) 0 (ag a 1)
def newJ (s : Sn) (a : List Int) : Jb := ⟨s.next, ag a 0, ag a 1, ag a 2, ag a 3, ag a 4, ag a 5, 1, 0, 0, 0, []⟩
def bestFrom : List Jb → Option (Nat × Int)
  | [] => none
  | j :: l => match bestFrom l with
    | none => if j.state = 4 then some (0, j.id) else none
    | some (k, m) => if j.state = 4 ∧ j.id ≤ m then some (0, j.id) else some (k + 1, m)
def bestJ (l : List Jb) : Option Nat := (bestFrom l).map (·.1)
def submitE (s : Sn) (a : List Int) : Int :=
  if inL s.funds (ag a 0) then (if goodJ (newJ s a) then (if 16 ≤ s.jobs.length ∧ bestJ s.jobs = none then 14 else 0) else 1) else 4
def kept (l : List Jb) : List Jb := if 16 ≤ l.length then (match bestJ l with | some k => l.eraseIdx k | none => l) else l
def submitS (s : Sn) (a : List Int) : Sn := { s with jobs := kept s.jobs ++ [newJ s a], next := s.next + 1 }
def zeroJ : Jb := ⟨0, 0, 0, 0, 0, 0, 0, 0, 0, 0, 0, []⟩
def mayK (k : Int) (st : Int) : Bool :=
  if k = 8 ∨ k = 14 then decide (st = 1) else if k = 9 then decide (st = 2) else if k = 10 then decide (st = 1 ∨ st = 2) else if k = 11 ∨ k = 12 then decide (st = 3) else decide (st = 4)
def jobE (s : Sn) (k now : Int) (a : List Int) (j : Jb) : Int :=
  if k = 12 then (if ag a 1 < 0 ∨ j.wall < ag a 1 then 1 else if costE j.nodes (ag a 1) j.price ≠ 0 then costE j.nodes (ag a 1) j.price else chargeE j.draws (costN j.nodes (ag a 1) j.price))
  else if k = 13 then (if ag a 1 < 1 then 1 else chargeE j.draws (ag a 1))
  else if k = 14 then
    (if ag a 1 < 0 ∨ 4294967296 ≤ ag a 1 ∨ (cnt (lo (ag a 1)) : Int) ≠ j.nodes then 1
     else if bits BinOp.and IntKind.i64 (ag a 1) (maskL s.jobs) ≠ 0 then 13
     else if costE j.nodes j.wall j.price ≠ 0 then costE j.nodes j.wall j.price
     else drawsE s.funds s.allocs j.fund (costN j.nodes j.wall j.price) now)
  else 0
def jobJ (s : Sn) (k now : Int) (a : List Int) (j : Jb) : Jb :=
  if k = 8 then { j with state := 2 }
  else if k = 9 then { j with state := 1 }
  else if k = 11 then { j with state := 1, start := 0, mask := 0, draws := [] }
  else if k = 12 then { j with state := 4, used := ag a 1, mask := 0, draws := someD (chargeL j.draws (costN j.nodes (ag a 1) j.price)) }
  else if k = 13 then { j with draws := someD (List.zipWith (fun c d => ⟨c.alloc, wrap64 (d.amt - c.amt)⟩) (chargeL j.draws (ag a 1)) j.draws) }
  else if k = 14 then { j with state := 3, start := now, mask := ag a 1, draws := drawsL s.funds s.allocs j.fund (costN j.nodes j.wall j.price) now }
  else j
def jobL (s : Sn) (k now : Int) (a : List Int) (j : Jb) : List Lg :=
  if k = 11 then legsW j.draws j.draws 2 1 0
  else if k = 12 then legsW j.draws (chargeL j.draws (costN j.nodes (ag a 1) j.price)) 2 3 1
  else if k = 13 then legsW (chargeL j.draws (ag a 1)) (chargeL j.draws (ag a 1)) 3 1 0
  else if k = 14 then legsW (drawsL s.funds s.allocs j.fund (costN j.nodes j.wall j.price) now) (drawsL s.funds s.allocs j.fund (costN j.nodes j.wall j.price) now) 1 2 0
  else []
def atJ (s : Sn) (a : List Int) : Jb := s.jobs.getD (findI s.jobs (ag a 0)).toNat zeroJ
def jobsE (s : Sn) (k now : Int) (a : List Int) : Int :=
  if findI s.jobs (ag a 0) < 0 then 4 else if mayK k (atJ s a).state then jobE s k now a (atJ s a) else 9
def jobsS (s : Sn) (k now : Int) (a : List Int) : Sn :=
  if k = 10 then { s with jobs := s.jobs.eraseIdx (findI s.jobs (ag a 0)).toNat } else { s with jobs := s.jobs.set (findI s.jobs (ag a 0)).toNat (jobJ s k now a (atJ s a)) }
def jobsL (s : Sn) (k now : Int) (a : List Int) : List Lg := jobL s k now a (atJ s a)
def expFrom (now : Int) : Nat → List Al → List Lg
  | _, [] => []
  | i, x :: l => (if 0 < x.avail ∧ x.till ≤ now then pair (1 + 3 * (i : Int)) 0 x.avail else []) ++ expFrom now (i + 1) l
def expL (s : Sn) (now : Int) : List Lg := expFrom now 0 s.allocs
def formB (t : Tx) : Bool :=
  decide (t.time < 0) || decide (1099511627776 < t.time) || decide (many t.kind < 0) || decide (many t.kind ≠ (t.args.length : Int)) || decide (16 < t.key.size) || decide (16 < t.name.size) ||
    (decide (t.name.size ≠ 0) && decide (t.kind ≠ 1)) || (decide (t.key.size ≠ 0) && decide (7 < t.kind) && decide (t.kind ≠ 13))
def kindE (s : Sn) (t : Tx) : Int :=
  if t.kind < 7 then bankE s t.kind t.name t.args else if t.kind = 7 then submitE s t.args else if t.kind < 15 then jobsE s t.kind t.time t.args else if expL s t.time = [] then 4 else 0
def kindS (s : Sn) (t : Tx) : Sn :=
  if t.kind < 7 then bankS s t.kind t.name t.args else if t.kind = 7 then submitS s t.args else if t.kind < 15 then jobsS s t.kind t.time t.args else s
def kindL (s : Sn) (t : Tx) : List Lg :=
  if t.kind < 7 then bankL s t.kind t.args else if t.kind = 7 then [] else if t.kind < 15 then jobsL s t.kind t.time t.args else expL s t.time
def posted (o : Sn) (legs : List Lg) : Sn := if legs = [] then o else { o with world := postW o.world o.allocs legs, allocs := postA o.world o.allocs legs }
def postedE (o : Sn) (legs : List Lg) : Int := if legs = [] then 0 else postE o.world o.allocs legs
def hasK (l : List ByteArray) (k : ByteArray) : Bool := l.any fun x => x.data.toList == k.data.toList
theorem hasK_iff {l : List ByteArray} {k : ByteArray} : hasK l k = true ↔ k ∈ l := by
  unfold hasK
  rw [List.any_eq_true]
  constructor
  · rintro ⟨x, hx, h⟩
    have h2 : x = k := by
      have h3 : x.data.toList = k.data.toList := by simpa using h
      exact ByteArray.ext (Array.toList_inj.1 h3)
    rw [← h2]; exact hx
  · intro h
    exact ⟨k, h, by simp⟩
def keysK (l : List ByteArray) (k : ByteArray) : List ByteArray := if k.size = 0 then l else (l ++ [k]).drop (l.length + 1 - 8)
def midS (s : Sn) (t : Tx) : Sn := posted (kindS s t) (kindL s t)
def doE (s : Sn) (t : Tx) : Int :=
  if formB t then 1 else if t.key.size ≠ 0 ∧ hasK s.keys t.key = true then 6 else if kindE s t ≠ 0 then kindE s t
  else if postedE (kindS s t) (kindL s t) ≠ 0 then postedE (kindS s t) (kindL s t)
  else if 0 ≤ over (midS s t).funds (midS s t).allocs then 8 else 0
def doS (s : Sn) (t : Tx) : Sn := if doE s t = 0 then { midS s t with keys := keysK s.keys t.key, seq := s.seq + 1 } else zeroS
def doT (s : Sn) (t : Tx) : Tx := if doE s t = 0 then ⟨s.seq + 1, t.time, t.kind, t.key, t.name, t.args, kindL s t⟩ else Ent.zeroT
open Classical in
noncomputable def applyE (s : Sn) (t : Tx) : Int := if doE s t ≠ 0 then doE s t else if doT s t = t then 0 else 3
open Classical in
noncomputable def applyS (s : Sn) (t : Tx) : Sn := if applyE s t = 0 then doS s t else zeroS
def MayS (s : Sn) : Prop :=
  (s.funds.length ≤ 8 ∧ s.allocs.length ≤ 16 ∧ s.rates.length ≤ 16 ∧ s.jobs.length ≤ 16 ∧ s.keys.length ≤ 8) ∧ (0 ≤ s.seq ∧ s.seq ≤ 1152921504606846976 ∧ 0 ≤ s.next ∧ s.next ≤ 1152921504606846976) ∧
    ∀ j ∈ s.jobs, (0 ≤ j.start ∧ j.start ≤ 1125899906842624 ∧ 0 ≤ j.wall ∧ j.wall ≤ 1125899906842624 ∧ j.draws.length ≤ 16) ∧ ∀ d ∈ j.draws, 0 ≤ d.alloc ∧ d.alloc ≤ 15
def newS : Sn := ⟨0, 0, 1, [], [], [], [], []⟩
end Go.Proofs.YtjcndgopijpibaaGreat.Bok
/- Ledger: what is posted fits (mathematics). -/
namespace Go.Proofs.YtjcndgopijpibaaGreat.Led
open Go.RowKit
open Mon
open Tre (Al inI)
set_option linter.unusedVariables false
theorem acct_cases {fl : List Int} {legs : List Lg} {k : Nat} (hn : named legs k = true) : (addE (mine fl legs k) ≠ 0 → acctE fl legs k = 2) ∧ (addE (mine fl legs k) = 0 → bad k (addN (mine fl legs k)) = true → acctE fl legs k = 7) ∧ (addE (mine fl legs k) = 0 → bad k (addN (mine fl legs k)) = false → acctE fl legs k = 0) ∧ acctN fl legs k = addN (mine fl legs k) := by
  unfold acctE acctN
  rw [if_pos hn, if_pos hn]
  refine ⟨fun h => ?_, fun h h2 => ?_, fun h h2 => ?_, rfl⟩
  · rw [if_pos h]
    rcases addE_two (mine fl legs k) with h3 | h3
    · exact absurd h3 h
    · exact h3
  · rw [if_neg (by simpa using h), if_pos h2]
  · rw [if_neg (by simpa using h), if_neg (by rw [h2]; exact Bool.false_ne_true)]
theorem acct_un {fl : List Int} {legs : List Lg} {k : Nat} (hn : named legs k = false) : acctE fl legs k = 0 ∧ acctN fl legs k = fl.getD k 0 := by
  unfold acctE acctN
  rw [hn]; exact ⟨rfl, rfl⟩
theorem inI_fits {n : Int} (h : fitsB n = true) : inI n := by
  rw [fitsB_iff] at h
  unfold inI; omega
theorem flat_in {wd : Int} {al : List Al} (hw : inI wd) (hok : ∀ x ∈ al, x.ok) {k : Nat} (hk : k < 1 + 3 * al.length) : inI ((flatN wd al).getD k 0) := by
  rcases flat_cases (w := wd) hk with rfl | ⟨i, a, hi, ha, hc⟩
  · rw [getD_at (flat_at0 wd al)]; exact hw
  · obtain ⟨_, _, _, h4, h5, h6⟩ := hok a (List.mem_of_getElem? ha)
    obtain ⟨g1, g2, g3⟩ := flat_at al i a wd ha
    rcases hc with rfl | rfl | rfl
    · rw [getD_at g1]; exact h4
    · rw [getD_at g2]; exact h5
    · rw [getD_at g3]; exact h6
theorem post_in {wd : Int} {al : List Al} {legs : List Lg} (h : postE wd al legs = 0) (hw : inI wd) (hok : ∀ x ∈ al, x.ok) {k : Nat} (hk : k < 1 + 3 * al.length) : inI (acctN (flatN wd al) legs k) := by
  have hE := (post_iff.1 h).2 k hk
  cases hn : named legs k with
  | false => rw [(acct_un hn).2]; exact flat_in hw hok hk
  | true =>
    obtain ⟨u1, u2, u3, u4⟩ := acct_cases (fl := flatN wd al) hn
    rw [u4]
    by_cases he : addE (mine (flatN wd al) legs k) = 0
    · rw [addN_sum he]
      have := (addE_iff.1 he).2 ((mine (flatN wd al) legs k).length - 1) (by unfold mine; simp)
      rw [List.take_of_length_le (by omega)] at this
      exact inI_fits this
    · rw [addN_err he]; unfold inI; omega
theorem post_ok {wd : Int} {al : List Al} {legs : List Lg} (h : postE wd al legs = 0) (hw : inI wd) (hok : ∀ x ∈ al, x.ok) : inI (postW wd al legs) ∧ ∀ x ∈ postA wd al legs, x.ok := by
  have hF : ∀ k, k < 1 + 3 * al.length → (postF wd al legs).getD k 0 = acctN (flatN wd al) legs k := fun k hk => getD_at (postF_at wd al legs hk)
  refine ⟨by rw [postW_ok h, hF 0 (by omega)]; exact post_in h hw hok (by omega), fun x hx => ?_⟩
  rw [postA_ok h] at hx
  obtain ⟨j, hj, rfl⟩ := List.getElem_of_mem hx
  have hja : j < al.length := by rwa [setA_len] at hj
  have e := setA_at (F := postF wd al legs) (List.getElem?_eq_getElem hja)
  rw [(List.getElem?_eq_some_iff.1 e).2]
  obtain ⟨h1, h2, h3, _, _, _⟩ := hok _ (List.getElem_mem hja)
  refine ⟨h1, h2, h3, ?_, ?_, ?_⟩
  · show inI ((postF wd al legs).getD (1 + 3 * j) 0)
    rw [hF _ (by omega)]; exact post_in h hw hok (by omega)
  · show inI ((postF wd al legs).getD (2 + 3 * j) 0)
    rw [hF _ (by omega)]; exact post_in h hw hok (by omega)
  · show inI ((postF wd al legs).getD (3 + 3 * j) 0)
    rw [hF _ (by omega)]; exact post_in h hw hok (by omega)
theorem post_flat {wd : Int} {al : List Al} {legs : List Lg} (h : postE wd al legs = 0) : flatN (postW wd al legs) (postA wd al legs) = postF wd al legs := by
  rw [postW_ok h, postA_ok h]
  exact flat_setA (postF_len wd al legs)
theorem wrap_add (x y : Int) : wrap64 (wrap64 x + y) = wrap64 (x + y) := by unfold wrap64; omega
end Go.Proofs.YtjcndgopijpibaaGreat.Led
/- Book: what stays so, whatever is done (mathematics). -/
namespace Go.Proofs.YtjcndgopijpibaaGreat.Bok
open Go.RowKit
open Go.Proofs.YtjcndgopijpibaaGreat.Mon (costN costE mulN mulE outN)
open Tre (inI Al Fd goodB over)
open Rte (Rt goodR)
open Led (Lg postE postW postA)
open Drw (Dw drawsE drawsL chargeE chargeL legsW)
open Job (Jb findI goodJ maskL)
open Poo (cnt lo)
open Ent (Tx zeroT)
open Snp (Sn zeroS)
set_option linter.unusedVariables false
theorem doT_ok {s : Sn} {t : Tx} (h : doE s t = 0) : doT s t = { t with seq := s.seq + 1, legs := kindL s t } := by unfold doT; rw [if_pos h]
theorem doT_no {s : Sn} {t : Tx} (h : doE s t ≠ 0) : doT s t = zeroT := by unfold doT; rw [if_neg h]
theorem doS_no {s : Sn} {t : Tx} (h : doE s t ≠ 0) : doS s t = zeroS := by unfold doS; rw [if_neg h]
theorem doS_ok {s : Sn} {t : Tx} (h : doE s t = 0) : doS s t = { midS s t with keys := keysK s.keys t.key, seq := s.seq + 1 } := by unfold doS; rw [if_pos h]
theorem fill_again {s : Sn} {t : Tx} (h : doE s t = 0) : doE s (doT s t) = 0 ∧ doT s (doT s t) = doT s t ∧ doS s (doT s t) = doS s t := by
  rw [doT_ok h]
  have h1 : doE s { t with seq := s.seq + 1, legs := kindL s t } = 0 := h
  refine ⟨h1, ?_, ?_⟩
  · rw [doT_ok h1]; rfl
  · rw [doS_ok h1, doS_ok h]; rfl
theorem apply_filled {s : Sn} {t : Tx} (h : doE s t = 0) : applyE s (doT s t) = 0 ∧ applyS s (doT s t) = doS s t := by
  obtain ⟨h1, h2, h3⟩ := fill_again h
  have e : applyE s (doT s t) = 0 := by unfold applyE; rw [if_neg (by rw [h1]; simp), if_pos h2]
  exact ⟨e, by unfold applyS; rw [if_pos e, h3]⟩
theorem apply_no {s : Sn} {t : Tx} (h : applyE s t ≠ 0) : applyS s t = zeroS := by unfold applyS; rw [if_neg h]
theorem apply_err {s : Sn} {t : Tx} (h : doE s t ≠ 0) : applyE s t = doE s t := by unfold applyE; rw [if_pos h]
theorem do_parts {s : Sn} {t : Tx} (h : doE s t = 0) : formB t = false ∧ (t.key.size ≠ 0 → hasK s.keys t.key = false) ∧ kindE s t = 0 ∧ postedE (kindS s t) (kindL s t) = 0 ∧ over (midS s t).funds (midS s t).allocs < 0 := by
  unfold doE at h
  by_cases h1 : formB t = true
  · rw [if_pos h1] at h; omega
  rw [if_neg h1] at h
  by_cases h2 : t.key.size ≠ 0 ∧ hasK s.keys t.key = true
  · rw [if_pos h2] at h; omega
  rw [if_neg h2] at h
  by_cases h3 : kindE s t ≠ 0
  · rw [if_pos h3] at h; exact absurd h h3
  rw [if_neg h3] at h
  by_cases h4 : postedE (kindS s t) (kindL s t) ≠ 0
  · rw [if_pos h4] at h; exact absurd h h4
  rw [if_neg h4] at h
  by_cases h5 : 0 ≤ over (midS s t).funds (midS s t).allocs
  · rw [if_pos h5] at h; omega
  refine ⟨by simpa using h1, fun hk => ?_, by simpa using h3, by simpa using h4, by omega⟩
  cases hh : hasK s.keys t.key with
  | false => rfl
  | true => exact absurd ⟨hk, hh⟩ h2
theorem form_parts {t : Tx} (h : formB t = false) : (0 ≤ t.time ∧ t.time ≤ 1099511627776) ∧ 0 ≤ many t.kind ∧ many t.kind = (t.args.length : Int) ∧ t.key.size ≤ 16 ∧ t.name.size ≤ 16 := by
  unfold formB at h
  simp only [Bool.or_eq_false_iff, decide_eq_false_iff_not] at h
  obtain ⟨⟨⟨⟨⟨⟨⟨h1, h2⟩, h3⟩, h4⟩, h5⟩, h6⟩, -⟩, -⟩ := h
  have h4' : many t.kind = (t.args.length : Int) := Classical.not_not.1 h4
  omega
theorem ag_in {a : List Int} (h : ∀ x ∈ a, inI x) (i : Nat) : inI (ag a i) := by
  unfold ag
  rw [List.getD_eq_getElem?_getD]
  cases hx : a[i]? with
  | none => unfold inI; simp
  | some x => exact h x (List.mem_of_getElem? hx)
theorem wrap_inI (x : Int) : inI (wrap64 x) := by unfold inI wrap64; omega
theorem charge_mem : ∀ (l : List Dw) (a : Int) (k : List Dw) (b : Int), Drw.chargeTo l a = some (k, b) → k.length = l.length ∧ ∀ (q : Nat) (c : Dw), k[q]? = some c → ∃ d, l[q]? = some d ∧ c.alloc = d.alloc ∧ 0 ≤ d.amt ∧ c.amt ≤ d.amt ∧ (0 ≤ a → 0 ≤ c.amt)
  | [], a, k, b, h => by
    rw [Drw.chargeTo] at h
    injection h with h
    injection h with h1 h2
    subst h1
    exact ⟨rfl, fun q c hc => by simp at hc⟩
  | d :: r, a, k, b, h => by
    rw [Drw.chargeTo] at h
    by_cases hd : d.amt < 0
    · rw [if_pos hd] at h; cases h
    · rw [if_neg hd] at h
      cases h1 : Drw.chargeTo r (a - min d.amt a) with
      | none => rw [h1] at h; cases h
      | some p =>
        obtain ⟨k', b'⟩ := p
        rw [h1] at h
        injection h with h
        injection h with h2 h3
        subst h2
        obtain ⟨g1, g2⟩ := charge_mem r _ _ _ h1
        refine ⟨by simp [g1], fun q c hc => ?_⟩
        cases q with
        | zero =>
          simp at hc
          subst hc
          exact ⟨d, rfl, rfl, by omega, Int.min_le_left _ _, fun ha => by simp only; omega⟩
        | succ q =>
          rw [List.getElem?_cons_succ] at hc
          obtain ⟨d', e1, e2, e3, e4, e5⟩ := g2 q c hc
          exact ⟨d', by rw [List.getElem?_cons_succ]; exact e1, e2, e3, e4, fun ha => e5 (by omega)⟩
theorem chargeL_mem {l : List Dw} {a : Int} (h : chargeE l a = 0) : (chargeL l a).length = l.length ∧ 0 ≤ a ∧ ∀ (q : Nat) (c : Dw), (chargeL l a)[q]? = some c → ∃ d, l[q]? = some d ∧ c.alloc = d.alloc ∧ 0 ≤ d.amt ∧ c.amt ≤ d.amt ∧ 0 ≤ c.amt := by
  have ha : 0 ≤ a := by
    unfold chargeE at h
    by_cases h0 : a < 0
    · rw [if_pos h0] at h; omega
    · omega
  unfold chargeL
  rw [if_pos h]
  cases hc : Drw.chargeTo l a with
  | none =>
    unfold chargeE at h
    rw [if_neg (by omega), hc] at h
    simp at h
  | some p =>
    obtain ⟨k, b⟩ := p
    obtain ⟨g1, g2⟩ := charge_mem l a k b hc
    refine ⟨g1, ha, fun q c hq => ?_⟩
    obtain ⟨d, e1, e2, e3, e4, e5⟩ := g2 q c hq
    exact ⟨d, e1, e2, e3, e4, e5 ha⟩
theorem goodJ_parts {j : Jb} (h : goodJ j = true) : (1 ≤ j.wall ∧ j.wall ≤ 1048576) ∧ (1 ≤ j.nodes ∧ j.nodes ≤ 32) ∧ (0 ≤ j.price ∧ j.price ≤ 1099511627776) := by
  unfold goodJ at h
  rw [Bool.and_eq_true] at h
  have h1 := of_decide_eq_true h.1
  omega
theorem find_at {l : List Jb} {id : Int} (h : ¬ findI l id < 0) : ∃ k j, findI l id = ((k : Nat) : Int) ∧ l[k]? = some j ∧ j.id = id := by
  unfold findI at h ⊢
  cases hf : Job.firstId id l with
  | none => rw [hf] at h; simp at h
  | some k =>
    have : ∀ (l : List Jb) (k : Nat), Job.firstId id l = some k → ∃ j, l[k]? = some j ∧ j.id = id := by
      intro l
      induction l with
      | nil => intro k h; simp [Job.firstId] at h
      | cons j l ih =>
        intro k h
        rw [Job.firstId] at h
        by_cases hj : j.id = id
        · rw [if_pos hj] at h
          injection h with h
          subst h
          exact ⟨j, rfl, hj⟩
        · rw [if_neg hj] at h
          cases hl : Job.firstId id l with
          | none => rw [hl] at h; simp at h
          | some q =>
            rw [hl] at h
            simp at h
            subst h
            obtain ⟨x, e1, e2⟩ := ih q hl
            exact ⟨x, by rw [List.getElem?_cons_succ]; exact e1, e2⟩
    obtain ⟨j, e1, e2⟩ := this l k hf
    exact ⟨k, j, rfl, e1, e2⟩
theorem atJ_of {s : Sn} {a : List Int} {k : Nat} {j : Jb} (h1 : findI s.jobs (ag a 0) = (k : Int)) (h2 : s.jobs[k]? = some j) : atJ s a = j := by
  unfold atJ
  rw [h1, Int.toNat_natCast, List.getD_eq_getElem?_getD, h2]; rfl
end Go.Proofs.YtjcndgopijpibaaGreat.Bok
