/- Profile: where so many fit, tick by tick, of what is busy for 63 ticks at most (mathematics). -/
import Derived.Test.YtagecoofaoaodaaPrfCtL
namespace Go.Proofs.Ytagecoofaoaodaa.Prf
set_option linter.unusedVariables false

def md (b : Bz) : Bz := ⟨b.till % 64, b.nodes⟩
def mixM (l : List Bz) (k : Nat) : List Bz := (l.take k).map md ++ l.drop k
theorem mix_len (l : List Bz) (k : Nat) (hk : k ≤ l.length) : (mixM l k).length = l.length := by
  unfold mixM
  rw [List.length_append, List.length_map, List.length_take, List.length_drop]; omega
theorem mix_at {l : List Bz} {k : Nat} {x : Bz} (h : l[k]? = some x) : (mixM l k)[k]? = some x := by
  obtain ⟨hk, e⟩ := List.getElem?_eq_some_iff.1 h
  unfold mixM
  have hl : ((l.take k).map md).length = k := by rw [List.length_map, List.length_take]; omega
  rw [List.getElem?_append_right (by omega), hl, Nat.sub_self, List.getElem?_drop, Nat.add_zero, h]
theorem mix_set {l : List Bz} {k : Nat} {x : Bz} (h : l[k]? = some x) : (mixM l k).set k (md x) = mixM l (k + 1) := by
  obtain ⟨hk, e⟩ := List.getElem?_eq_some_iff.1 h
  unfold mixM
  have hl : ((l.take k).map md).length = k := by rw [List.length_map, List.length_take]; omega
  rw [List.set_append, if_neg (by omega), hl, Nat.sub_self, List.drop_eq_getElem_cons hk, List.set_cons_zero, List.take_succ_eq_append_getElem hk, e, List.map_append]
  simp
theorem mix_end (l : List Bz) : mixM l l.length = l.map md := by unfold mixM; simp
theorem md_may {l : List Bz} (h : ∀ b ∈ l, b.may) : ∀ b ∈ l.map md, b.may ∧ b.till ≤ 63 := by
  intro b hb
  obtain ⟨x, hx, rfl⟩ := List.mem_map.1 hb
  obtain ⟨⟨h1, h2⟩, h3⟩ := h x hx
  have h4 : 0 ≤ x.till % 64 := Int.emod_nonneg _ (by omega)
  have h5 : x.till % 64 < 64 := Int.emod_lt_of_pos _ (by omega)
  exact ⟨⟨⟨h4, by show x.till % 64 ≤ _; omega⟩, h3⟩, by show x.till % 64 ≤ _; omega⟩
theorem late {t : Int} (ht : 64 ≤ t) : ∀ {l : List Bz}, (∀ b ∈ l, b.till ≤ 63) → busyN l t = 0
  | [], _ => rfl
  | b :: l, h => by
    rw [busyN, late ht fun x hx => h x (List.mem_cons_of_mem _ hx), if_neg (by have := h b (List.mem_cons_self ..); omega)]; rfl
theorem fits_facts {tot no k m : Int} {b : Bool} {l : List Bz} {p : List St} (hl : ∀ x ∈ l, x.may ∧ x.till ≤ 63) (hp : IsP p (newF tot l) 0) (hf : IsF p no k m b) (hk : 1 ≤ k) :
    (b = true ∧ no ≤ tot ∧ 0 ≤ m ∧ m ≤ 64 ∧ ∀ t, 0 ≤ t → t ≤ m → (fitsAt p no k t ↔ t = m)) ∨ (b = false ∧ tot < no ∧ m = 0) := by
  have hlo : longOf k = k := by unfold longOf; rw [if_neg (by omega)]
  have hle : ∀ t, 0 ≤ t → val p t ≤ tot := fun t ht => by
    rw [hp.fn t ht]
    unfold newF
    have := (busyN_le (K := 1048576) (by omega) (t := t) fun b hb => (hl b hb).1.2).1
    omega
  have h64 : no ≤ tot → fitsAt p no k 64 := fun h t h1 h2 => by
    rw [hp.fn t (by omega)]
    unfold newF
    rw [late h1 fun x hx => (hl x hx).2]
    omega
  obtain ⟨f, l', e⟩ := hp.head
  rcases hf with ⟨rfl, a, l2, e2, h1, h2, h3⟩ | ⟨rfl, rfl, h1⟩
  · rw [e] at e2
    injection e2 with e3 e4
    subst e3
    simp only at h1 h3
    rw [hlo] at h2 h3
    have hno : no ≤ tot := by
      have := h2 m (Int.le_refl _) (by omega)
      have := hle m h1
      omega
    refine .inl ⟨rfl, hno, h1, ?_, fun t ht htm => ⟨fun h => ?_, fun h => by rw [h]; exact h2⟩⟩
    · by_cases hm : m ≤ 64
      · exact hm
      · exact absurd (h64 hno) (h3 64 (by omega) (by omega))
    · by_cases hm : t = m
      · exact hm
      · exact absurd h (h3 t ht (by omega))
  · refine .inr ⟨rfl, ?_, rfl⟩
    by_cases hno : no ≤ tot
    · have := h1 _ _ e 64 (by show (0 : Int) ≤ 64; omega)
      rw [hlo] at this
      exact absurd (h64 hno) this
    · omega
end Go.Proofs.Ytagecoofaoaodaa.Prf
