/- Common: several lists of the call's own: an append to one of them leaves the others as they are, and apart from it. -/
import Derived.Test.YtckebhknnocpkaaKit
import Derived.Laws.AppendOwn
import Derived.Laws.OwnMore
namespace Go.Proofs.Ytckebhknnocpkaa.Two
open Go.RowKit
open Go.Sort
open Kit

/-- Where an append to a list of the call's own leaves it: in its block, or in a new one. -/
theorem append_where {P : Program} (w : World) (base : Nat) (t ty e : TypeId) (i : TypeInfo) (z : Value) (size bytes : Nat) (ht : P.underlying t = some (.slice e)) (hi : P.info? e = some i) (hz : i.zero = some z)
    (hsize : i.size = size) (hby : i.bytes = bytes) (hzs : z.cells.size = size) (hsz : 0 < size) (v : Value) (n : Nat) (xs : List Value) (hown : w.ownsRow base e size v n xs)
    (a : Addr) (m c : Nat) (news : List Value) (hl : news.length = m * size) (hnews : ∀ j u, news[j]? = some u → w.cell? (a.add j) = some u) (h1 : ∀ u ∈ news, u.oneCell' = true)
    (h63 : n + m ≤ maxLen) (hbytes : (n + m) * bytes ≤ 140737488355328) (hbase : base ≤ w.heap.size) :
    ∃ v' w', (Builtin.append_ #[t, t] ty #[v, .slice (some a) m c]).run P w = .ok v' w' ∧ w'.ownsRow base e size v' (n + m) (xs ++ news) ∧ w.grownBy w' v.ownBlock ∧ (v'.ownBlock = v.ownBlock ∨ v'.ownBlock = some w.heap.size) := by
  obtain ⟨v', w', hr, h2, h3, _⟩ := run_append_own (P := P) w base t ty e i z size bytes ht hi hz hsize hby hzs hsz v n xs hown a m c news hl hnews h1 h63 hbytes hbase
  refine ⟨v', w', hr, h2, h3, ?_⟩
  subst hsize hby
  have hsmall : n + m ≤ 9223372036854775807 := by simp only [maxLen] at h63; omega
  have out : ∀ {x y : Value} {wx wy : World} {r : Result Value}, r = .ok x wx → r = .ok y wy → x = y := by
    intro x y wx wy r hx hy
    rw [hx] at hy
    injection hy
  rcases hown.2 with ⟨rfl, rfl⟩ | ⟨g, cap, cur, rfl, _, hg, _, _, hcs, _⟩
  · by_cases hm : m = 0
    · subst hm
      have hn : news = [] := List.eq_nil_of_length_eq_zero (by simpa using hl)
      subst hn
      have hr0 : (Builtin.append_ #[t, t] ty #[.slice none 0 0, .slice (some a) 0 c]).run P w = .ok (.slice none 0 0) w := by
        simp [Builtin.append_, run_underlying ht, sizeOf, typeInfo, hi, Builtin.lenOf, Builtin.firstCells, loadCells, loadCellsFrom]
      exact .inl (by rw [out hr hr0])
    · have hr0 := run_append_nil (P := P) w t ty e i z ht hi hz a m c news hl hnews (by omega) (by omega) (by have hb := hbytes; simp only [Nat.zero_add] at hb; omega)
      exact .inr (by rw [out hr hr0]; rfl)
  · by_cases hroom : n + m ≤ cap
    · have hr0 := run_append_room (P := P) w t ty e i ht hi g n cap cur hg a m c news hl hnews h1 hroom (by rw [hl, hcs, ← Nat.add_mul]; exact Nat.mul_le_mul_right _ hroom)
      exact .inl (by rw [out hr hr0]; rfl)
    · have hr0 := run_append_grow (P := P) w t ty e i z ht hi hz ⟨g, 0, none⟩ n cap xs hown.1 (hown.cells (g := g) rfl) a m c news hl hnews (by omega) (by omega) (growslice_fits (by omega) hbytes)
      exact .inr (by rw [out hr hr0]; rfl)

variable {α : Type} {enc : α → List Value} {size : Nat}

/-- 'append' of a list to a list of the call's own, as it runs, and what becomes of the others. -/
theorem run_append_apart (hs : ∀ x, (enc x).length = size) (hz : 0 < size) (hone : ∀ x, ∀ u ∈ enc x, u.oneCell' = true) {P : Program} {w : World} (t ty e : TypeId) (ht : P.underlying t = some (.slice e)) (z : Value) (bytes : Nat)
    (hinfo : (P.info? e).map (fun i => (i.zero, i.size, i.bytes)) = some (some z, size, bytes)) (hzs : z.cells.size = size)
    (base : Nat) (v : Value) (l : List α) (hown : Owns enc size e w base v l) (ad : Option Addr) (m c : Nat) (k : List α) (hk : k.length = m) (hrow : Row enc size w ad k) (hnil : ad = none → m = 0 ∧ c = 0)
    (h63 : l.length + m ≤ maxLen) (hbytes : (l.length + m) * bytes ≤ 140737488355328) (hbase : base ≤ w.heap.size) :
    ∃ v' w', (Builtin.append_ #[t, t] ty #[v, .slice ad m c]).run P w = .ok v' w' ∧ Owns enc size e w' base v' (l ++ k) ∧ w.grownBy w' v.ownBlock ∧ (v'.ownBlock = v.ownBlock ∨ v'.ownBlock = some w.heap.size) := by
  obtain ⟨i0, hi, hz0, hz1, hz2⟩ := info_parts hinfo
  cases ad with
  | none =>
    obtain ⟨rfl, rfl⟩ := hnil rfl
    obtain rfl : k = [] := List.length_eq_zero_iff.1 hk
    exact ⟨v, w, run_append_owned_none (P := P) (w := w) base t ty e i0 size ht hi v l.length _ hown, by rw [List.append_nil]; exact hown, ⟨rfl, rfl, rfl, Nat.le_refl _, fun _ _ _ => rfl⟩, .inl rfl⟩
  | some q =>
    have hnews : ∀ j u, (flat enc k)[j]? = some u → w.cell? (q.add j) = some u := by
      intro j u hj
      rcases hrow with rfl | ⟨b, off, h1, h2⟩
      · simp [flat] at hj
      · simp at h1
        subst h1
        have hjl : j < k.length * size := by rw [← flat_length hs]; exact (List.getElem?_eq_some_iff.1 hj).1
        have hd : j / size < k.length := by rw [Nat.div_lt_iff_lt_mul hz]; exact hjl
        have hm := Nat.mod_lt j hz
        have e1 := h2 (j / size) hd (j % size) hm
        rw [← flat_at hs k (j / size) hd (j % size) hm] at e1
        have e2 : j / size * size + j % size = j := by rw [Nat.mul_comm]; exact Nat.div_add_mod j size
        rw [Nat.add_assoc, e2, hj] at e1
        rw [add_plain]; exact e1
    obtain ⟨v', w', hr, g2, g3, g4⟩ := append_where (P := P) w base t ty e i0 z size bytes ht hi hz0 hz1 hz2 hzs hz v l.length _ hown q m c (flat enc k) (by rw [flat_length hs, hk]) hnews
      (fun u hu => by obtain ⟨x, _, hux⟩ := List.mem_flatMap.1 hu; exact hone x u hux) h63 hbytes hbase
    refine ⟨v', w', hr, ?_, g3, g4⟩
    unfold Owns
    rw [flat_append, List.length_append, hk]
    exact g2
/-- The same in a walk. -/
theorem append_apart (hs : ∀ x, (enc x).length = size) (hz : 0 < size) (hone : ∀ x, ∀ u ∈ enc x, u.oneCell' = true) {P : Program} {w : World} {ops : Array Oper} {rest : List Oper} {o : Oper} {A : Act} {Q : Exit → Act → World → Prop} (hgd : o.guard = none) (s x : Operand) (t e : TypeId)
    (ho : o.op = .call { callee := .builtin .append, args := #[s, x], argTypes := #[t, t] }) (ht : P.underlying t = some (.slice e)) (z : Value) (bytes : Nat)
    (hinfo : (P.info? e).map (fun i => (i.zero, i.size, i.bytes)) = some (some z, size, bytes)) (hzs : z.cells.size = size)
    (base : Nat) (v : Value) (l : List α) (hv : A.eval s = v) (hown : Owns enc size e w base v l) (ad : Option Addr) (m c : Nat) (k : List α) (hx : A.eval x = .slice ad m c) (hk : k.length = m) (hrow : Row enc size w ad k) (hnil : ad = none → m = 0 ∧ c = 0)
    (h63 : l.length + m ≤ maxLen) (hbytes : (l.length + m) * bytes ≤ 140737488355328) (hbase : base ≤ w.heap.size)
    (h : ∀ v' w', Owns enc size e w' base v' (l ++ k) → w.grownBy w' v.ownBlock → (v'.ownBlock = v.ownBlock ∨ v'.ownBlock = some w.heap.size) → wpList P ops Q rest (A.put o.dst v') w') : wpList P ops Q (o :: rest) A w := by
  obtain ⟨v', w', hr, g2, g3, g4⟩ := run_append_apart (P := P) hs hz hone t o.type e ht z bytes hinfo hzs base v l hown ad m c k hk hrow hnil h63 hbytes hbase
  refine wpList_plain hgd fun K hK => ?_
  unfold Oper.wp execOp
  simp only [ho, resolve, invoke, builtin, Sem.run_bind, Sem.run_pure, Result.andThen_ok, List.map_toArray, List.map_cons, List.map_nil, hv, hx, hr]
  exact hK _ _ (h v' w' g2 g3 g4)

/-- Two values that own no block together. -/
def Apart (v u : Value) : Prop := u.ownBlock = none ∨ u.ownBlock ≠ v.ownBlock
theorem apart_symm {v u : Value} (h : Apart v u) : Apart u v := by
  unfold Apart at *
  rcases h with h | h
  · by_cases hv : v.ownBlock = none
    · exact .inl hv
    · exact .inr (by rw [h]; exact hv)
  · exact .inr (Ne.symm h)
theorem owns_kept {e : TypeId} {w w' : World} {base : Nat} {v u : Value} {l : List α} (h : Owns enc size e w base u l) (hg : w.grownBy w' v.ownBlock) (ha : Apart v u) : Owns enc size e w' base u l := World.ownsRow.kept h hg ha
theorem apart_kept {e : TypeId} {w : World} {base : Nat} {v v' u : Value} {l : List α} (h : Owns enc size e w base u l) (ha : Apart v u) (hv : v'.ownBlock = v.ownBlock ∨ v'.ownBlock = some w.heap.size) : Apart v' u := by
  unfold Apart at *
  rcases hv with hv | hv
  · rw [hv]; exact ha
  · by_cases hu : u.ownBlock = none
    · exact .inl hu
    · refine .inr fun e => ?_
      rw [hv] at e
      have := (World.ownsRow.lt h _ e).2
      omega
theorem below_grown {e : TypeId} {w w' : World} {base : Nat} {v : Value} {l : List α} (h : Owns enc size e w base v l) (hg : w.grownBy w' v.ownBlock) (hb : base ≤ w.heap.size) : Below base w w' :=
  (Below.refl _ _).grown hg hb fun k hk => (World.ownsRow.lt h k hk).1

end Go.Proofs.Ytckebhknnocpkaa.Two
