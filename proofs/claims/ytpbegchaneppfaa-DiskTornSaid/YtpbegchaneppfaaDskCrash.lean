/- Disk: what a crash leaves of each sector. -/
import Derived.Test.YtpbegchaneppfaaDskMath
namespace Go.Proofs.Ytpbegchaneppfaa.Dsk
set_option linter.unusedVariables false

theorem mix_none (old new : Sec) : mix 0 old new = old := by simp [mix]
theorem mix_whole {old new : Sec} (h1 : old.length = 32) (h2 : new.length = 32) : mix 32 old new = new := by
  unfold mix
  rw [List.take_of_length_le (by omega), List.drop_of_length_le (by omega), List.append_nil]
theorem mix_at {old new : Sec} {m k : Nat} (h1 : old.length = 32) (h2 : new.length = 32) (hm : m ≤ 32) : (mix m old new)[k]? = if k < m then new[k]? else old[k]? := by
  unfold mix
  rw [List.getElem?_append, List.length_take]
  by_cases h : k < m
  · rw [if_pos (by omega), if_pos h, List.getElem?_take_of_lt h]
  · rw [if_neg (by omega), if_neg h, List.getElem?_drop, Nat.min_eq_left (by omega)]
    congr 1; omega
/-- From the first byte on that is not as it was written, all are as they were for good. -/
theorem drop_mixed {old new : Sec} {m k : Nat} (h1 : old.length = 32) (h2 : new.length = 32) (hm : m ≤ 32) (hne : (mix m old new)[k]? ≠ new[k]?) : (mix m old new).drop k = old.drop k := by
  have hmk : m ≤ k := by
    by_cases h : k < m
    · exact absurd (by rw [mix_at h1 h2 hm, if_pos h]) hne
    · omega
  apply List.ext_getElem?
  intro i
  rw [List.getElem?_drop, List.getElem?_drop, mix_at h1 h2 hm, if_neg (by omega)]

/-- Each sector is a mixture; but for one it is the one or the other. -/
theorem crash_at {s : DS} (ok : s.Ok) (keep torn cut : Int) {i : Nat} (hi : i < s.good.length) :
    ∃ m, m ≤ 32 ∧ (s.crash keep torn cut).good.getD i [] = mix m (s.good.getD i []) (s.now.getD i []) ∧ ((s.crash keep torn cut).good.getD i [] ≠ s.good.getD i [] → (s.crash keep torn cut).good.getD i [] ≠ s.now.getD i [] → i = s.order.getD torn.toNat 0) := by
  have hg : (s.good.getD i []).length = 32 := ok.good32 _ (getD_mem hi)
  have hn : (s.now.getD i []).length = 32 := ok.now32 _ (getD_mem (by rw [ok.len]; exact hi))
  have hc : (s.crash keep torn cut).good = settle keep torn cut s.now s.order s.order.length s.good := rfl
  by_cases h : i ∈ s.order
  · obtain ⟨k, hk, rfl⟩ := List.getElem_of_mem h
    have e := settle_at keep torn cut s.now s.order s.good ok.nodup ok.ordLt s.order.length (Nat.le_refl _) k hk
    rw [if_pos hk] at e
    have e' : (s.crash keep torn cut).good.getD s.order[k] [] = mix (many keep torn cut k) (s.good.getD s.order[k] []) (s.now.getD s.order[k] []) := by rw [hc, List.getD, e]; rfl
    refine ⟨_, many_le keep torn cut k, e', fun h1 h2 => ?_⟩
    rw [e'] at h1 h2
    by_cases ht : (k : Int) = torn
    · rw [← ht]
      show _ = s.order.getD ((k : Int).toNat) 0
      rw [Int.toNat_natCast, getD_at hk]
    · exfalso
      unfold many at h1 h2
      rw [if_neg ht] at h1 h2
      split at h1
      · rename_i hb
        rw [if_pos hb] at h2
        exact h2 (mix_whole hg hn)
      · exact h1 (mix_none _ _)
  · have e := settle_other keep torn cut s.now s.order s.good i h s.order.length (Nat.le_refl _)
    have e' : (s.crash keep torn cut).good.getD i [] = s.good.getD i [] := by rw [hc, List.getD, e]; rfl
    exact ⟨0, by omega, by rw [e', mix_none], fun h1 => absurd e' h1⟩
/-- What is not cached stays. -/
theorem crash_other {s : DS} (keep torn cut : Int) {i : Nat} (h : i ∉ s.order) : (s.crash keep torn cut).good.getD i [] = s.good.getD i [] := by
  have e := settle_other keep torn cut s.now s.order s.good i h s.order.length (Nat.le_refl _)
  show (settle _ _ _ _ _ _ _).getD i [] = _
  rw [List.getD, e]; rfl
theorem crash_length (s : DS) (keep torn cut : Int) : (s.crash keep torn cut).good.length = s.good.length := by show (settle _ _ _ _ _ _ _).length = _; rw [settle_length]
theorem crash_read (s : DS) (keep torn cut : Int) {i : Nat} (hi : i < s.good.length) : (s.crash keep torn cut).read i = ((s.crash keep torn cut).good.getD i [], 0) := by
  unfold DS.read
  rw [if_pos (show inR (i : Int) (s.crash keep torn cut).good.length from ⟨by omega, by rw [crash_length]; omega⟩)]
  rfl
/-- Without a fuse. -/
theorem write_free {s : DS} (hf : s.fuse = -1) (i : Int) (b : Sec) : (s.write i b).2.fuse = -1 ∧ (s.write i b).2.good = s.good ∧ ((s.write i b = (1, s)) ∨ ((s.write i b).1 = 0 ∧ inR i s.good.length ∧ ∀ j, j ≠ i.toNat → (j ∈ (s.write i b).2.order ↔ j ∈ s.order))) := by
  unfold DS.write
  split
  · exact ⟨hf, rfl, .inl rfl⟩
  · rename_i h
    simp only [Decidable.not_not] at h
    rw [if_neg (by omega)]
    refine ⟨by show burnt s.fuse = -1; rw [hf]; rfl, rfl, .inr ⟨rfl, h.1, fun j hj => ?_⟩⟩
    show j ∈ (if _ then _ else _ : List Nat) ↔ _
    split
    · rfl
    · simp [hj]
theorem flush_free {s : DS} (hf : s.fuse = -1) (ok : s.Ok) : s.flush.1 = 0 ∧ s.flush.2.fuse = -1 ∧ s.flush.2.order = [] ∧ s.flush.2.good = s.now ∧ s.flush.2.now = s.now := by
  unfold DS.flush
  rw [if_neg (by omega)]
  exact ⟨rfl, by show burnt s.fuse = -1; rw [hf]; rfl, rfl, rfl, rfl⟩
theorem write_good_length (s : DS) (i : Int) (b : Sec) : (s.write i b).2.good.length = s.good.length := by
  unfold DS.write
  split
  · rfl
  · split <;> rfl

end Go.Proofs.Ytpbegchaneppfaa.Dsk
