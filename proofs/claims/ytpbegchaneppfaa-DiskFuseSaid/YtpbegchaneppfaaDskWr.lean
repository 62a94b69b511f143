/- Disk: the landed disk: a write. -/
import Derived.Test.YtpbegchaneppfaaDskFnd
import Derived.Laws.CopyOwn
namespace Go.Proofs.Ytpbegchaneppfaa.Dsk
open Go.RowKit
open Go.Sort
open Kit
open Oct
open Foot
set_option linter.unusedVariables false

/-! ### Cells that are laid over some of a list's -/

theorem splice_at {α : Type} {L cs : List α} {off : Nat} (h : off + cs.length ≤ L.length) (j : Nat) : (splice L off cs)[j]? = if j < off then L[j]? else if j < off + cs.length then cs[j - off]? else L[j]? := by
  unfold splice
  have h1 : (L.take off).length = off := by rw [List.length_take]; omega
  by_cases h2 : j < off
  · rw [if_pos h2, List.getElem?_append_left (by omega), List.getElem?_take_of_lt h2]
  · rw [if_neg h2, List.getElem?_append_right (by omega), h1]
    by_cases h3 : j < off + cs.length
    · rw [if_pos h3, List.getElem?_append_left (by omega)]
    · rw [if_neg h3, List.getElem?_append_right (by omega), List.getElem?_drop]
      congr 1; omega
/-- One element of a list of the call's own is changed in part. -/
theorem owns_splice {α : Type} {enc : α → List Value} {size : Nat} (hs : ∀ x, (enc x).length = size) (hz : 0 < size) {e : TypeId} {w : World} {base g n cap : Nat} {l : List α} (h : Owns enc size e w base (.slice (some ⟨g, 0, none⟩) n cap) l)
    {k : Nat} (hk : k < l.length) (o : Nat) (cs : List Value) (x' : α) (hfit : o + cs.length ≤ size) (hx : enc x' = splice (enc l[k]) o cs) :
    ∃ cur, w.heap[g]? = some (.cells cur e (0, 0)) ∧ k * size + o + cs.length ≤ cur.size ∧ Owns enc size e (w.setRow g (splice cur.toList (k * size + o) cs).toArray) base (.slice (some ⟨g, 0, none⟩) n cap) (l.set k x') := by
  obtain ⟨h1, h2⟩ := h
  rcases h2 with ⟨h2, _⟩ | ⟨g', cap', cur, h2, hb, hg, hn, hm, hc, ht⟩
  · cases h2
  injection h2 with h2 h3 h4
  injection h2 with h2
  injection h2 with h2
  subst h2 h3 h4
  have hfl := flat_length hs l
  have hmul : (k + 1) * size ≤ l.length * size := Nat.mul_le_mul_right _ (by omega)
  rw [Nat.add_mul, Nat.one_mul] at hmul
  have hcap : l.length * size ≤ cap * size := Nat.mul_le_mul_right _ hn
  have hcl : cur.toList.length = cap * size := by simpa using hc
  have hin : k * size + o + cs.length ≤ cur.toList.length := by omega
  refine ⟨cur, hg, by rw [hc]; omega, by rw [flat_length hs], .inr ⟨g, cap, _, by rw [List.length_set], hb, setRow_heap w g _ _ _ _ hg, by rw [List.length_set]; exact hn, hm, ?_, ?_⟩⟩
  · show (splice cur.toList _ cs).length = _
    rw [length_splice _ _ _ hin, hcl]
  · rw [List.length_set]
    apply List.ext_getElem?
    intro j
    by_cases hj : j < l.length * size
    · rw [List.getElem?_take_of_lt hj]
      show (splice cur.toList _ cs)[j]? = _
      rw [splice_at hin]
      have hq : j / size < l.length := by rw [Nat.div_lt_iff_lt_mul hz]; exact hj
      have hr := Nat.mod_lt j hz
      have hjq : j / size * size + j % size = j := by rw [Nat.mul_comm]; exact Nat.div_add_mod j size
      have hset := flat_at hs (l.set k x') (j / size) (by rw [List.length_set]; exact hq) (j % size) hr
      have hold := flat_at hs l (j / size) hq (j % size) hr
      rw [hjq] at hset hold
      have hcur : cur.toList[j]? = (flat enc l)[j]? := by rw [← ht, List.getElem?_take_of_lt hj]
      rw [hset]
      by_cases hkq : k = j / size
      · subst hkq
        rw [List.getElem_set_self, hx, splice_at (by rw [hs]; exact hfit)]
        rw [hold] at hcur
        rw [hcur]
        generalize j / size * size = m at *
        by_cases ha : j < m + o
        · rw [if_pos ha, if_pos (show j % size < o by omega)]
        · rw [if_neg ha, if_neg (show ¬ j % size < o by omega)]
          by_cases hb : j < m + o + cs.length
          · rw [if_pos hb, if_pos (show j % size < o + cs.length by omega)]
            congr 1; omega
          · rw [if_neg hb, if_neg (show ¬ j % size < o + cs.length by omega)]
      · rw [List.getElem_set_ne hkq]
        rw [hold] at hcur
        rw [← hcur]
        have hne : j < k * size ∨ k * size + size ≤ j := by
          rcases Nat.lt_or_gt_of_ne hkq with h5 | h5
          · have : (k + 1) * size ≤ j / size * size := Nat.mul_le_mul_right _ h5
            rw [Nat.add_mul, Nat.one_mul] at this
            omega
          · have : (j / size + 1) * size ≤ k * size := Nat.mul_le_mul_right _ h5
            rw [Nat.add_mul, Nat.one_mul] at this
            omega
        by_cases ha : j < k * size + o
        · rw [if_pos ha]
        · rw [if_neg ha, if_neg (by omega)]
    · rw [List.getElem?_eq_none (by rw [List.length_take]; omega), List.getElem?_eq_none (by rw [flat_length hs, List.length_set]; omega)]

/-- 'copy' onto bytes in a block: the world behind it by name. -/
theorem wpList_copy_hid {P : Program} {w : World} {ops : Array Oper} {rest : List Oper} {o : Oper} {a : Act} {Q : Exit → Act → World → Prop} (hgd : o.guard = none) (d s : Operand) (dT sT : TypeId)
    (ho : o.op = .call { callee := .builtin .copy, args := #[d, s], argTypes := #[dT, sT] }) (elem : TypeId) (hu : P.underlying dT = some (.slice elem)) (hsz : (P.info? elem).map (·.size) = some 1)
    (g off dLen dCap : Nat) (ad : Addr) (sLen sCap : Nat) (hd : a.eval d = .slice (some ⟨g, off, none⟩) dLen dCap) (hs : a.eval s = .slice (some ad) sLen sCap)
    (cur : Array Value) (t : TypeId) (hg : w.heap[g]? = some (.cells cur t (0, 0))) (cs : List Value) (hn : cs.length = Nat.min sLen dLen)
    (hsrc : ∀ j v, cs[j]? = some v → w.cell? (ad.add j) = some v) (hfit : off + cs.length ≤ cur.size) (h1 : ∀ v ∈ cs, v.oneCell' = true)
    (h : ∀ w', Hid (w' = w.setRow g (splice cur.toList off cs).toArray) → wpList P ops Q rest (a.put o.dst (goInt cs.length)) w') : wpList P ops Q (o :: rest) a w :=
  wpList_copy_own hgd d s dT sT ho elem hu hsz g off dLen dCap ad sLen sCap hd hs cur t hg cs hn hsrc hfit h1 (h _ rfl)
theorem size_u8 : (Try.prog.info? 5).map (·.size) = some 1 := by kernel_rfl

/-! ### The disk in memory, whatever is cached -/

structure DkM (w : World) (F : Nat → Prop) (p : Nat) (good : List Sec) (cache : List (Nat × Sec)) (al ac : Option Addr) (cl cc : Nat) (fused : Bool) (left : Int) : Prop where
  blk : Arr.Blk w p 55 [.slice al good.length cl, .slice ac cache.length cc, .bool fused, .int .i64 left]
  own : F p
  lown : Owns encS 32 64 w 0 (.slice al good.length cl) good
  lfoot : ∀ k, (Value.slice al good.length cl).ownBlock = some k → F k
  cown : Owns encC 33 66 w 0 (.slice ac cache.length cc) cache
  cfoot : ∀ k, (Value.slice ac cache.length cc).ownBlock = some k → F k
variable {w w' : World} {F G : Nat → Prop} {p cl cc : Nat} {good : List Sec} {cache : List (Nat × Sec)} {al ac : Option Addr} {fu : Bool} {left : Int} {s : DS}
theorem dkm_of (r : DkAt w F p s al ac cl cc fu left) : DkM w F p s.good (cacheOf s) al ac cl cc fu left := by
  obtain ⟨h1, h2, h3, h4, h5, h6, _, _, _⟩ := r
  rw [← cacheOf_len s] at h1 h5 h6
  exact ⟨h1, h2, h3, h4, h5, h6⟩
theorem dkm_at (h : DkM w F p s.good (cacheOf s) al ac cl cc fu left) (ok : s.Ok) (hf : s.fuse = cond fu left (-1)) (h0 : 0 ≤ left ∧ left ≤ 9223372036854775807) : DkAt w F p s al ac cl cc fu left := by
  obtain ⟨h1, h2, h3, h4, h5, h6⟩ := h
  rw [cacheOf_len s] at h1 h5 h6
  exact ⟨h1, h2, h3, h4, h5, h6, ok, hf, h0⟩
theorem dkm_mono (r : DkM w F p good cache al ac cl cc fu left) (hf : ∀ k, F k → G k) : DkM w G p good cache al ac cl cc fu left :=
  ⟨r.blk, hf _ r.own, r.lown, fun k hk => hf k (r.lfoot k hk), r.cown, fun k hk => hf k (r.cfoot k hk)⟩
theorem dkm_chg (r : DkM w F p good cache al ac cl cc fu left) (hc : Chg G w w') (ha : ∀ k, F k → ¬ G k) : DkM w' F p good cache al ac cl cc fu left :=
  ⟨blk_chg hc r.blk (ha _ r.own), r.own, own_chg hc r.lown (fun g hg => ha g (r.lfoot g hg)), r.lfoot, own_chg hc r.cown (fun g hg => ha g (r.cfoot g hg)), r.cfoot⟩
theorem dkm_keep (r : DkM w F p good cache al ac cl cc fu left) (hb : Below w.heap.size w w') : DkM w' F p good cache al ac cl cc fu left := dkm_chg r (new_chg hb (fun _ => False)) (fun _ _ => id)
theorem row_chgF (w : World) (b : Nat) (ds : Array Value) : Chg (fun k => k = b) w (w.setRow b ds) := chg_row (F := fun k => k = b) (chg_refl _ w) (.inl rfl) ds
theorem encC_splice {q : Nat} {old l : Sec} (hl : l.length = 32) : encC (q, l) = splice (encC (q, old)) 1 (cellsB l) := by
  unfold splice
  rw [cellsB_length, hl, List.drop_of_length_le (by rw [encC_len]; exact Nat.le_refl _), List.append_nil]
  show _ :: encS l = [_] ++ cellsB l
  rw [encS_is hl]; rfl
/-- Cached sector k is l. -/
theorem dkm_copy (r : DkM w F p good cache al ac cl cc fu left) {k q : Nat} (hk : k < cache.length) (hq : cache[k].1 = q) {l : Sec} (hl : l.length = 32) :
    ∃ b cur, ac = some ⟨b, 0, none⟩ ∧ F b ∧ w.heap[b]? = some (.cells cur 66 (0, 0)) ∧ k * 33 + 1 + 32 ≤ cur.size ∧
      ∀ w', w' = w.setRow b (splice cur.toList (k * 33 + 1) (cellsB l)).toArray → DkM w' F p good (cache.set k (q, l)) al ac cl cc fu left ∧ Chg F w w' := by
  obtain ⟨b, rfl, _, _, _⟩ := own_at encC_len r.cown (by omega)
  have hF := r.cfoot b rfl
  have hxe : encC (q, l) = splice (encC cache[k]) 1 (cellsB l) := by
    generalize cache[k] = y at hq
    subst hq
    exact encC_splice hl
  obtain ⟨cur, hcur, hsz, ho⟩ := owns_splice encC_len (by omega) r.cown hk 1 (cellsB l) (q, l) (by rw [cellsB_length, hl]; exact Nat.le_refl _) hxe
  rw [cellsB_length, hl] at hsz
  refine ⟨b, cur, rfl, hF, hcur, hsz, fun w' hw' => ?_⟩
  subst hw'
  have hc := row_chgF w b (splice cur.toList (k * 33 + 1) (cellsB l)).toArray
  refine ⟨⟨?_, r.own, own_typed r.lown hc (typed_one hcur (Ne.symm ne_sec_cd)), r.lfoot, ?_, ?_⟩, chg_row (chg_refl F w) (.inl hF) _⟩
  · rw [List.length_set]
    exact blk_chg hc r.blk fun e => by
      have := r.blk
      unfold Arr.Blk at this
      rw [e, hcur] at this
      injection this with this
      injection this with _ h2 _
      exact ne_dk_cd h2.symm
  · rw [List.length_set]; exact ho
  · rw [List.length_set]; exact r.cfoot
/-- One more is cached. -/
theorem dkm_append {wa w9 : World} {v9 : Value} {x : Nat × Sec} (r : DkM wa F p good cache al ac cl cc fu left) (hF : ∀ k, F k → k < wa.heap.size) (ho : Owns encC 33 66 w9 0 v9 (cache ++ [x])) (hg : wa.grownBy w9 (Value.slice ac cache.length cc).ownBlock) (hw : v9.ownBlock = (Value.slice ac cache.length cc).ownBlock ∨ v9.ownBlock = some wa.heap.size) :
    ∃ b9 c9, v9 = .slice (some ⟨b9, 0, none⟩) (cache.length + 1) c9 ∧ (w9.cell? ⟨p, 1, none⟩ = some (.slice ac cache.length cc) ∧ w9.frozen? ⟨p, 1, none⟩ = false) ∧
      DkM (w9.setCell ⟨p, 1, none⟩ (.slice (some ⟨b9, 0, none⟩) (cache.length + 1) c9)) (More F wa w9) p good (cache ++ [x]) al (some ⟨b9, 0, none⟩) cl c9 fu left ∧ Chg F wa (w9.setCell ⟨p, 1, none⟩ (.slice (some ⟨b9, 0, none⟩) (cache.length + 1) c9)) := by
  obtain ⟨a9, c9, rfl, _, _, _, _⟩ := owns_row encC_len ho
  obtain ⟨b9, rfl, _, _, _⟩ := own_at encC_len ho (by simp)
  have hl : (cache ++ [x]).length = cache.length + 1 := by simp
  rw [hl] at ho hw
  have c3 := grown_chg hg
  have b3 := blk_typed r.blk c3 (typed_own r.cown (Ne.symm ne_dk_cd))
  have l3 := own_typed r.lown c3 (typed_own r.cown (Ne.symm ne_sec_cd))
  have hC : Chg F wa w9 := chg_trans (chg_refl F wa) c3 fun k hk => .inl (r.cfoot k hk.symm)
  have b4 := Arr.blk_set b3 1 (.slice (some ⟨b9, 0, none⟩) (cache.length + 1) c9)
  refine ⟨b9, c9, by rw [hl], ⟨Arr.blk_cell b3 1, Arr.blk_frozen b3 1⟩, ⟨?_, more_old r.own, lown_dk l3 b3, fun k hk => more_old (r.lfoot k hk), ?_, ?_⟩, chg_set hC (.inl r.own) _ _⟩
  · rw [hl]; exact b4
  · rw [hl]; exact cown_dk ho b3
  · intro k hk
    rcases hw with hw | hw
    · exact more_old (r.cfoot k (by rw [← hw]; exact hk))
    · rw [show (Value.slice (some ⟨b9, 0, none⟩) (cache.length + 1) c9).ownBlock = some b9 from rfl] at hw
      injection hw with hw
      injection hk with hk
      subst hk
      have hlt : b9 < w9.heap.size := (World.ownsRow.lt ho b9 rfl).2
      replace hw : b9 = wa.heap.size := hw
      have := hg.size
      show More F wa w9 b9
      exact more_new (by omega) hlt

/-! ### What is cached, in words of a disk -/

theorem cacheOf_in (ok : s.Ok) {k q : Nat} (hk : k < s.order.length) (hq : s.order[k] = q) (l : Sec) (f : Int) : cacheOf { s with now := s.now.set q l, fuse := f } = (cacheOf s).set k (q, l) := by
  subst hq
  have hqn : s.order[k] < s.now.length := by rw [ok.len]; exact ok.ordLt _ (List.getElem_mem hk)
  apply List.ext_getElem
  · rw [List.length_set, cacheOf_len, cacheOf_len]
  · intro j h1 h2
    rw [cacheOf_len] at h1
    have h1' : j < s.order.length := h1
    rw [cacheOf_at _ (by rw [cacheOf_len]; exact h1) h1, List.getElem_set]
    by_cases hj : k = j
    · subst hj
      rw [if_pos rfl]
      show (s.order[k], (s.now.set s.order[k] l).getD s.order[k] []) = _
      rw [List.getD, List.getElem?_set_self hqn]; rfl
    · rw [if_neg hj, cacheOf_at _ (by rw [cacheOf_len]; exact h1') h1']
      show (s.order[j], (s.now.set s.order[k] l).getD s.order[j] []) = _
      have hne : s.order[k] ≠ s.order[j] := fun e => hj ((List.getElem_inj ok.nodup).1 e)
      rw [List.getD, List.getElem?_set_ne hne]; rfl
theorem cacheOf_new (ok : s.Ok) {q : Nat} (hq : q < s.good.length) (hn : q ∉ s.order) (l : Sec) (f : Int) : cacheOf { s with now := s.now.set q l, order := s.order ++ [q], fuse := f } = cacheOf s ++ [(q, l)] := by
  have hqn : q < s.now.length := by rw [ok.len]; exact hq
  unfold cacheOf
  simp only [List.map_append, List.map_cons, List.map_nil]
  congr 1
  · apply List.map_congr_left
    intro j hj
    have hne : q ≠ j := fun e => hn (e ▸ hj)
    rw [List.getD, List.getElem?_set_ne hne]; rfl
  · rw [List.getD, List.getElem?_set_self hqn]; rfl
theorem found_none {q : Nat} (h : ∀ x ∈ cacheOf s, (x.1 : Int) ≠ (q : Int)) : q ∉ s.order := fun hm => h (q, s.now.getD q []) (List.mem_map.2 ⟨q, hm, rfl⟩) rfl
theorem found_some {q k : Nat} (hk : k < (cacheOf s).length) (h : (((cacheOf s)[k].1 : Nat) : Int) = (q : Int)) : ∃ h' : k < s.order.length, s.order[k] = q := by
  have h' : k < s.order.length := by rw [← cacheOf_len s]; exact hk
  refine ⟨h', ?_⟩
  rw [cacheOf_at s hk h'] at h
  exact Int.natCast_inj.1 h
theorem nodup_le : ∀ (n : Nat) (l : List Nat), l.Nodup → (∀ i ∈ l, i < n) → l.length ≤ n
  | 0, l, _, h => by
    cases l with
    | nil => exact Nat.le_refl _
    | cons x l => exact absurd (h x (by simp)) (by omega)
  | n + 1, l, hd, h => by
    have h1 := nodup_le n (l.erase n) (hd.erase n) fun i hi => by
      obtain ⟨h2, h3⟩ := (hd.mem_erase_iff).1 hi
      have := h i h3; omega
    rw [List.length_erase] at h1
    split at h1 <;> omega
theorem order_le (ok : s.Ok) : s.order.length ≤ 1024 := by
  have h1 := ok.small
  have h2 : s.order.length ≤ s.good.length := nodup_le _ s.order ok.nodup ok.ordLt
  omega

/-! ### Write -/

theorem row_chg' {ad : Addr} {l : List UInt8} (hr : RowB w (some ad) l) (hA : ¬ F ad.block) (hF : ∀ k, F k → k < w.heap.size) (hC : Chg F w w') : RowB w' (some ad) l := by
  rcases hr with e | ⟨b, o, e, h⟩
  · exact .inl e
  · injection e with e
    subst e
    exact row_chg encB_len hC (.inr ⟨b, o, rfl, h⟩) hA


set_option maxHeartbeats 2000000 in
theorem dwrite_any (h : Dk w F p s) (hF : ∀ k, F k → k < w.heap.size) (i : Int) (aa : Option Addr) (len cp : Nat) (l : Sec) (hi : -9223372036854775808 ≤ i ∧ i ≤ 9223372036854775807) (hl : l.length = len) (hlc : len ≤ cp) (hcm : cp ≤ maxLen) (hn : aa = none → len = 0 ∧ cp = 0) (hE : RowB w aa l) (hA : ∀ q, aa = some q → ¬ F q.block) :
    Calls Try.prog 13 #[.pointer (some ⟨p, 0, none⟩), .int .i64 i, .slice aa len cp] w fun e w' => e = .returned (.int .i64 (s.write i l).1) ∧ Dk w' (More F w w') p (s.write i l).2 ∧ Chg F w w' := by
  have hH := dhas_any h i
  have hmx : len ≤ 9223372036854775807 := by unfold maxLen at hcm; omega
  by_cases h1 : inR i s.good.length
  · rw [decide_eq_true h1] at hH
    have HH := Lib.hid hH
    clear hH
    by_cases h2 : l.length = 32
    · have hlen : len = 32 := by rw [← hl]; exact h2
      subst hlen
      have HP := Lib.hid (dpasses_any h)
      by_cases h0 : s.fuse = 0
      · have hw : s.write i l = (10, s) := by
          unfold DS.write
          rw [if_neg (by simp only [Decidable.not_not]; exact ⟨h1, h2⟩), if_pos h0]
        have HW := Lib.hid hw
        have hb : ({ s with fuse := burnt s.fuse } : DS) = s := by
          have : burnt s.fuse = s.fuse := by rw [h0]; rfl
          rw [this]
        have HB := Lib.hid hb
        have HZ := Lib.hid (decide_eq_true h0)
        clear hw hb h1 h0 h
        go_enter Try.func13, Try.ntmps13
        go_wp2_with (first
          | (go_at_call 27; refine HH.out.mono ?_; rintro e w0 ⟨rfl, h0⟩; replace h0 := h0.symm; subst h0)
          | (go_at_call 28; refine HP.out.mono ?_; rw [HZ.out, HB.out]; rintro e w1 ⟨rfl, hd, hC, hz⟩; have HD := Lib.hid (And.intro hd hC); clear hd hC hz)
          | fail)
        go_ret
        exact ⟨by rw [HW.out]; rfl, by rw [HW.out]; exact dk_mono HD.out.1 (fun _ => more_old), HD.out.2⟩
      · have hd0 := decide_eq_false h0
        have HZ := Lib.hid hd0
        obtain ⟨q, rfl⟩ : ∃ q : Nat, i = q := ⟨i.toNat, by have := h1.1; omega⟩
        have hqg : q < s.good.length := by have := h1.2; omega
        have hok := dk_ok h
        obtain ⟨S2, hS2⟩ : ∃ S2 : DS, S2 = { s with now := s.now.set q l, order := if q ∈ s.order then s.order else s.order ++ [q], fuse := burnt s.fuse } := ⟨_, rfl⟩
        have hwr : s.write q l = (0, S2) := by
          unfold DS.write
          rw [if_neg (by simp only [Decidable.not_not]; exact ⟨h1, h2⟩), if_neg h0, Int.toNat_natCast, hS2]
        have HS2 := Lib.hid hS2
        have hok2 := write_ok hok q l
        rw [hwr] at hok2 ⊢
        obtain ⟨ad, rfl⟩ : ∃ ad, aa = some ad := by
          cases aa with
          | none => have := (hn rfl).1; omega
          | some ad => exact ⟨ad, rfl⟩
        have HO := Lib.hid (And.intro hok hok2)
        have HR := Lib.hid (And.intro hE (hA ad rfl))
        have HF := Lib.hid hF
        have HQ := Lib.hid hqg
        have HL := Lib.hid (And.intro h2 (order_le hok))
        clear hok hok2 hE hA hF hqg hwr hn h1 h0 hd0 h hS2
        go_enter Try.func13, Try.ntmps13
        go_wp2_with (first
          | (go_at_call 27; refine HH.out.mono ?_; rintro e w0 ⟨rfl, h0⟩; replace h0 := h0.symm; subst h0)
          | (go_at_call 28; refine HP.out.mono ?_; rw [HZ.out]; rintro e w1 ⟨rfl, hd, hC, hz⟩; have HD := Lib.hid (And.intro hd (And.intro hC hz)); clear hd hC hz)
          | fail)
        refine (dfind_any HD.out.1 q).mono ?_
        rintro e w2 ⟨j, rfl, hj, hb2⟩
        have hj' : Found (cacheOf s) q j := hj
        have hd2 := dk_keep HD.out.1 hb2
        obtain ⟨al, ac, cl, cc, fu, left, r⟩ := hd2
        have rm := dkm_of r
        have hC2 : Chg F w w2 := chg_trans HD.out.2.1 (new_chg hb2 F) fun _ h => .inl h
        have hfl : burnt s.fuse = cond fu left (-1) := r.fuse
        have hl0 := r.left0
        have HC2 := Lib.hid (And.intro hC2 (And.intro hfl hl0))
        have HX := Lib.hid r.ok
        rw [show (cacheOf { s with fuse := burnt s.fuse }) = cacheOf s from rfl, show ({ s with fuse := burnt s.fuse } : DS).good = s.good from rfl] at rm
        have hrow2 : RowB w2 (some ad) l := by
          rcases HR.out.1 with e | ⟨b, o, e, h⟩
          · exact .inl e
          · injection e with e
            subst e
            exact row_chg encB_len hC2 (.inr ⟨b, o, rfl, h⟩) HR.out.2
        clear r hj hb2 hC2 hfl hl0
        rcases hj' with ⟨rfl, hno⟩ | ⟨k, hk, rfl, hkq⟩
        · have hnm := found_none hno
          have c1 := Arr.blk_cell rm.blk 1
          simp only [List.getElem?_cons_zero, List.getElem?_cons_succ] at c1
          have hown := owns_alloc rm.cown (.cells (encC (q, [])).toArray 66)
          have ra := dkm_keep rm (below_alloc w2 (.cells (encC (q, [])).toArray 66))
          have hb2 := below_alloc w2 (.cells (encC (q, [])).toArray 66)
          have hFa : ∀ k, F k → k < (w2.alloc (.cells (encC (q, [])).toArray 66)).heap.size := fun k hk => Nat.lt_of_lt_of_le (HF.out k hk) (Nat.le_trans HC2.out.1.size hb2.size)
          have hrowa := row_keep encB_len hrow2 hb2
          have hCa : Chg F w (w2.alloc (.cells (encC (q, [])).toArray 66)) := chg_trans HC2.out.1 (new_chg hb2 F) fun _ h => .inl h
          have hcl := cacheOf_len s
          have hcl4 : (cacheOf s).length ≤ 1024 := by rw [hcl]; exact HL.out.2
          have HNm := Lib.hid hnm
          have HA := Lib.hid (And.intro hown (And.intro ra (And.intro hFa (And.intro hrowa hCa))))
          have HCl := Lib.hid (And.intro hcl hcl4)
          have c1a := cell_alloc c1 (o := .cells (encC (q, [])).toArray 66)
          clear hno hnm hown ra hFa hrowa hCa hb2 rm hrow2 hcl hcl4
          go_wp2_with (first
            | (at_builtin; refine Two.append_apart encC_len (by omega) encC_one rfl (.tmp 34) (.tmp 37) 53 66 rfl Try.underlying53 (.agg (encC (0, [])).toArray) 40 info_cd (by simp [Value.cells, encC_len]) 0 (.slice ac (cacheOf s).length cc) (cacheOf s) rfl HA.out.1 (some ⟨w2.heap.size, 0, none⟩) 1 1 [(q, [])] rfl rfl (Kit.row_new encC_len w2 [(q, [])] _ _ _ rfl rfl) (fun h => by cases h) (by have := HCl.out.2; unfold maxLen; omega) (by have := HCl.out.2; omega) (Nat.zero_le _) ?_; intro v9 w9 ho9 hg9 hw9
               obtain ⟨b9, c9, rfl, ⟨p1, f1⟩, r9, hC9⟩ := dkm_append HA.out.2.1 HA.out.2.2.1 ho9 hg9 hw9
               have hrow9 := row_chg' HA.out.2.2.2.1 (HR.out.2) (HA.out.2.2.1) hC9
               obtain ⟨b, cur, hbe, hFb, hcur, hsz, hcp⟩ := dkm_copy r9 (k := (cacheOf s).length) (q := q) (by simp) (by simp) HL.out.1
               obtain rfl : b9 = b := by injection hbe with hbe; injection hbe
               have hCw := chg_trans HA.out.2.2.2.2 hC9 fun _ h => .inl h
               have HCp := Lib.hid (And.intro hcp (And.intro hcur (And.intro hsz (And.intro hbe hCw))))
               have HRw := Lib.hid (row_cells hrow9 ad rfl)
               clear ho9 hg9 hw9 r9 hC9 hrow9 hcp hcur hsz hbe hFb hCw)
            | (refine wpList_copy_hid rfl (.tmp 48) (.tmp 49) 39 39 rfl 5 Try.underlying39 size_u8 b9 ((cacheOf s).length * 33 + 1) 32 32 ad 32 cp rfl rfl cur 66 HCp.out.2.1 (cellsB l) (by rw [cellsB_length, HL.out.1]; rfl) HRw.out (by rw [cellsB_length, HL.out.1]; exact HCp.out.2.2.1) (cellsB_one l) ?_; intro w10 hw10; have H10 := Lib.hid (HCp.out.1 w10 hw10.out); clear hw10)
            | fail)
          go_ret
          have h10 := H10.out
          have hs2 := HS2.out
          rw [if_neg HNm.out] at hs2
          have hset : (cacheOf s ++ [(q, [])]).set (cacheOf s).length (q, l) = cacheOf s ++ [(q, l)] := by simp
          rw [hset, ← cacheOf_new HO.out.1 HQ.out HNm.out l (burnt s.fuse), ← hs2] at h10
          rw [show s.good = S2.good by rw [hs2]] at h10
          have hCa := HA.out.2.2.2.2
          have hCw := HCp.out.2.2.2.2
          have hsz : w9.heap.size ≤ w10.heap.size := by have := h10.2.size; rw [setCell_size] at this; exact this
          have hC : Chg F w w10 := chg_trans hCw h10.2 fun x hx => hx.imp id fun h => Nat.le_trans hCa.size h.1
          refine ⟨rfl, ⟨al, _, cl, c9, fu, left, dkm_at (dkm_mono h10.1 fun x hx => hx.imp id fun h => ⟨Nat.le_trans hCa.size h.1, Nat.lt_of_lt_of_le h.2 hsz⟩) HO.out.2 (by rw [hs2]; exact HC2.out.2.1) HC2.out.2.2⟩, hC⟩
        · obtain ⟨hko, hkq'⟩ := found_some hk hkq
          obtain ⟨b, cur, rfl, hFb, hcur, hsz, hcp⟩ := dkm_copy rm hk (Int.natCast_inj.1 hkq) HL.out.1
          have c1 := Arr.blk_cell rm.blk 1
          simp only [List.getElem?_cons_zero, List.getElem?_cons_succ] at c1
          rw [cacheOf_len] at c1
          have hklt : (k : Int) < s.order.length := by omega
          have HCp := Lib.hid (And.intro hcp (And.intro hcur hsz))
          have HRw := Lib.hid (row_cells hrow2 ad rfl)
          have HKq := Lib.hid (And.intro hkq' hko)
          have hmem : q ∈ s.order := by rw [← hkq']; exact List.getElem_mem hko
          have HMem := Lib.hid hmem
          clear hrow2 hcp hcur hsz rm hkq hkq' hk hmem
          go_wp2_with (first
            | (refine wpList_copy_hid rfl (.tmp 48) (.tmp 49) 39 39 rfl 5 Try.underlying39 size_u8 b (k * 33 + 1) 32 32 ad 32 cp rfl rfl cur 66 HCp.out.2.1 (cellsB l) (by rw [cellsB_length, HL.out.1]; rfl) HRw.out (by rw [cellsB_length, HL.out.1]; exact HCp.out.2.2) (cellsB_one l) ?_; intro w9 hw9; have H9 := Lib.hid (HCp.out.1 w9 hw9.out); clear hw9)
            | fail)
          go_ret
          refine ⟨rfl, ⟨al, some ⟨b, 0, none⟩, cl, cc, fu, left, ?_⟩, chg_trans HC2.out.1 H9.out.2 fun _ h => .inl h⟩
          have h9 := H9.out.1
          have hs2 := HS2.out
          rw [if_pos HMem.out] at hs2
          rw [← cacheOf_in HO.out.1 HKq.out.2 HKq.out.1 l (burnt s.fuse), ← hs2] at h9
          rw [show s.good = S2.good by rw [hs2]] at h9
          exact dkm_at (dkm_mono h9 fun _ => more_old) HO.out.2 (by rw [hs2]; exact HC2.out.2.1) HC2.out.2.2
    · have hw : s.write i l = (1, s) := by
        unfold DS.write
        rw [if_pos (show ¬ (inR i s.good.length ∧ l.length = 32) from fun h => h2 h.2)]
      have HW := Lib.hid hw
      have HD := Lib.hid h
      have hne : ((len : Int) == 32) = false := by rw [beq_eq_false_iff_ne]; omega
      clear hw h h1
      go_enter Try.func13, Try.ntmps13
      go_wp2_with (first
        | (go_at_call 27; refine HH.out.mono ?_; rintro e w0 ⟨rfl, h0⟩; replace h0 := h0.symm; subst h0)
        | fail)
      go_ret
      exact ⟨by rw [HW.out]; rfl, by rw [HW.out]; exact dk_mono HD.out (fun _ => more_old), chg_refl F w⟩
  · have hw : s.write i l = (1, s) := by
      unfold DS.write
      rw [if_pos (show ¬ (inR i s.good.length ∧ l.length = 32) from fun h => h1 h.1)]
    rw [decide_eq_false h1] at hH
    have HH := Lib.hid hH
    have HW := Lib.hid hw
    have HD := Lib.hid h
    clear hw h h1 hH
    go_enter Try.func13, Try.ntmps13
    go_wp2_with (first
      | (go_at_call 27; refine HH.out.mono ?_; rintro e w0 ⟨rfl, h0⟩; replace h0 := h0.symm; subst h0)
      | fail)
    go_ret
    exact ⟨by rw [HW.out]; rfl, by rw [HW.out]; exact dk_mono HD.out (fun _ => more_old), chg_refl F w⟩

end Go.Proofs.Ytpbegchaneppfaa.Dsk
