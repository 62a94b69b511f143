/- Disk: the document's disk, by what it is. -/
import Derived.Test.YtpbegchaneppfaaDskActs
namespace Go.Proofs.Ytpbegchaneppfaa.Dsk
open Go.RowKit
open Go.Sort
open Kit
open Oct
open Foot
set_option linter.unusedVariables false

/-- A fuse, below 0: none. -/
def nf (f : Int) : Int := if f < 0 then -1 else f
theorem nf_zero (f : Int) : nf f = 0 ↔ f = 0 := by unfold nf; split <;> omega
theorem burnt_nf (f : Int) : burnt (nf f) = nf (burnt f) := by
  unfold burnt nf
  by_cases h : f < 0
  · rw [if_pos h, if_neg (by omega : ¬ (0 : Int) < -1), if_neg (by omega : ¬ 0 < f), if_pos h]
  · rw [if_neg h]
    by_cases h0 : 0 < f
    · rw [if_pos h0, if_neg (by omega)]
    · rw [if_neg h0, if_neg h]
theorem burnt_in {f : Int} (h : -9223372036854775808 ≤ f ∧ f ≤ 9223372036854775807) : -9223372036854775808 ≤ burnt f ∧ burnt f ≤ 9223372036854775807 := by unfold burnt; split <;> omega

/-- The document's disk at p is s; no more than c writes since its last flush. -/
def RefS (w : World) (F : Nat → Prop) (p : Nat) (s : DS) (c : Nat) : Prop :=
  ∃ good log f, RefD w F p good log f ∧ s = ofLog good log (nf f) ∧ log.length ≤ c ∧ (∀ x ∈ log, x.1 < good.length ∧ x.2.length = 32) ∧ s.Ok ∧ -9223372036854775808 ≤ f ∧ f ≤ 9223372036854775807

theorem refs_mono {w : World} {F G : Nat → Prop} {p c d : Nat} {s : DS} (h : RefS w F p s c) (hf : ∀ k, F k → G k) (hc : c ≤ d) : RefS w G p s d := by
  obtain ⟨good, log, f, h1, h2, h3, h4⟩ := h
  exact ⟨good, log, f, ref_mono h1 hf, h2, Nat.le_trans h3 hc, h4⟩
theorem refs_chg {w w' : World} {F G : Nat → Prop} {p c : Nat} {s : DS} (h : RefS w F p s c) (hc : Chg G w w') (ha : ∀ k, F k → ¬ G k) : RefS w' F p s c := by
  obtain ⟨good, log, f, h1, h2⟩ := h
  exact ⟨good, log, f, ref_chg h1 hc ha, h2⟩
theorem refs_ok {w : World} {F : Nat → Prop} {p c : Nat} {s : DS} (h : RefS w F p s c) : s.Ok := by
  obtain ⟨good, log, f, _, _, _, _, h5, _⟩ := h; exact h5
theorem refs_size {w : World} {F : Nat → Prop} {p c : Nat} {s : DS} (h : RefS w F p s c) : ∃ ag cg, w.cell? ⟨p, 0, none⟩ = some (.slice ag s.good.length cg) := by
  obtain ⟨good, log, f, h1, rfl, _⟩ := h
  exact ref_cell0 h1

theorem refs_new (n : Int) (w : World) (h1 : -9223372036854775808 ≤ n) (h2 : n ≤ 9223372036854775807) :
    Calls Try.prog 9 #[.int .i64 n] w fun e w' => ∃ p, e = .returned (.pointer (some ⟨p, 0, none⟩)) ∧ RefS w' (More (fun _ => False) w w') p (DS.new n) 0 ∧ Below w.heap.size w w' :=
  (rnew_any n w h1 h2).mono fun e w' ⟨p, he, hR, hb⟩ => ⟨p, he, ⟨_, [], -1, hR, rfl, Nat.le_refl _, (fun x hx => by cases hx), new_ok n, by omega, by omega⟩, hb⟩

theorem ofLog_write {good : List Sec} {log : List (Nat × Sec)} {f : Int} {i : Int} {l : Sec} (h : inR i good.length ∧ l.length = 32) (hf : f ≠ 0) : (ofLog good log (nf f)).write i l = (0, ofLog good (log ++ [(i.toNat, l)]) (nf (burnt f))) := by
  have hf' : nf f ≠ 0 := fun e => hf ((nf_zero f).1 e)
  unfold DS.write
  rw [if_neg (by simp only [Decidable.not_not]; exact h), if_neg (show ¬ (ofLog good log (nf f)).fuse = 0 from hf')]
  simp only [ofLog, logNow_snoc, logOrd_snoc, burnt_nf]
  rfl

theorem refs_write {F : Nat → Prop} {p c : Nat} {s : DS} {w : World} (h : RefS w F p s c) (hF : ∀ k, F k → k < w.heap.size) (hc : c < 1000000)
    (i : Int) (aa : Option Addr) (len cc : Nat) (l : Sec) (hl : l.length = len) (hm : len ≤ 9223372036854775807) (hn : aa = none → len = 0 ∧ cc = 0) (hE : RowB w aa l) (hA : ∀ q, aa = some q → ¬ F q.block) :
    Calls Try.prog 24 #[.pointer (some ⟨p, 0, none⟩), .int .i64 i, .slice aa len cc] w fun e w' => e = .returned (.int .i64 (s.write i l).1) ∧ RefS w' (More F w w') p (s.write i l).2 (c + 1) ∧ Chg F w w' := by
  obtain ⟨good, log, f, hR, rfl, hcl, hlog, hok, hf1, hf2⟩ := h
  have hsm : good.length ≤ 1024 := hok.small
  have hok2 := write_ok hok i l
  by_cases h1 : inR i good.length ∧ l.length = 32
  · by_cases h0 : f = 0
    · subst h0
      have hlen : len = 32 := by rw [← hl]; exact h1.2
      subst hlen
      have hw : (ofLog good log (nf 0)).write i l = (10, ofLog good log (nf 0)) := by
        unfold DS.write
        rw [if_neg (by simp only [Decidable.not_not]; exact h1), if_pos (show (ofLog good log (nf 0)).fuse = 0 from rfl)]
      rw [hw]
      exact (rwrite_down hR hsm i aa cc h1.1).mono fun e w' ⟨he, hR', hC, _⟩ => ⟨he, ⟨good, log, 0, ref_mono hR' fun _ => more_old, rfl, by omega, hlog, hok, by omega, by omega⟩, hC⟩
    · rw [ofLog_write h1 h0] at hok2 ⊢
      refine (rwrite_ok hR hF ⟨hf1, hf2⟩ hsm (by omega) i aa len cc l hl hn hE hA h1.1 h1.2 h0).mono fun e w' ⟨he, hR', hC⟩ => ⟨he, ⟨good, _, burnt f, hR', rfl, by rw [List.length_append]; simp; omega, ?_, hok2, burnt_in ⟨hf1, hf2⟩⟩, hC⟩
      intro x hx
      rcases List.mem_append.1 hx with hx | hx
      · exact hlog x hx
      · simp at hx
        subst hx
        obtain ⟨⟨h2, h3⟩, h4⟩ := h1
        exact ⟨by show i.toNat < _; omega, h4⟩
  · have hw : (ofLog good log (nf f)).write i l = (1, ofLog good log (nf f)) := by
      unfold DS.write
      rw [if_pos (show ¬ (inR i (ofLog good log (nf f)).good.length ∧ l.length = 32) from h1)]
    rw [hw]
    refine (rwrite_bad hR i aa len cc (by rw [← hl]; exact h1) hm hsm).mono fun e w' ⟨he, hw'⟩ => ?_
    subst hw'
    exact ⟨he, ⟨good, log, f, ref_mono hR fun _ => more_old, rfl, by omega, hlog, hok, hf1, hf2⟩, chg_refl _ _⟩

theorem refs_read {F : Nat → Prop} {p c : Nat} {s : DS} {w : World} (h : RefS w F p s c) (hc : c ≤ 1000000) (i : Int) :
    Calls Try.prog 26 #[.pointer (some ⟨p, 0, none⟩), .int .i64 i] w fun e w' => ∃ v, e = .returned (.tuple #[v, .int .i64 (s.read i).2]) ∧ OwnB w' w.heap.size v (s.read i).1 ∧ Below w.heap.size w w' := by
  obtain ⟨good, log, f, hR, rfl, hcl, hlog, hok, hf1, hf2⟩ := h
  have hsm : good.length ≤ 1024 := hok.small
  by_cases h1 : inR i good.length
  · have hr : (ofLog good log (nf f)).read i = ((logNow good log).getD i.toNat [], 0) := by unfold DS.read; rw [if_pos (show inR i (ofLog good log (nf f)).good.length from h1)]; rfl
    rw [hr]
    exact rread_ok hR hsm (by omega) hok.now32 i h1
  · have hr : (ofLog good log (nf f)).read i = ([], 1) := by unfold DS.read; rw [if_neg (show ¬ inR i (ofLog good log (nf f)).good.length from h1)]
    rw [hr]
    refine (rread_bad hR i h1 hsm).mono fun e w' ⟨he, hw'⟩ => ?_
    subst hw'
    exact ⟨_, he, owns_nil _ _ _, Below.refl _ _⟩

theorem logNow_nil (g : List Sec) : logNow g [] = g := rfl
theorem refs_flush {F : Nat → Prop} {p c : Nat} {s : DS} {w : World} (h : RefS w F p s c) (hc : c ≤ 1000000) :
    Calls Try.prog 22 #[.pointer (some ⟨p, 0, none⟩)] w fun e w' => e = .returned (.int .i64 s.flush.1) ∧ RefS w' F p s.flush.2 c ∧ Chg F w w' ∧ w'.heap.size = w.heap.size := by
  obtain ⟨good, log, f, hR, rfl, hcl, hlog, hok, hf1, hf2⟩ := h
  have hsm : good.length ≤ 1024 := hok.small
  have hok2 := flush_ok hok
  by_cases h0 : f = 0
  · subst h0
    have hw : (ofLog good log (nf 0)).flush = (10, ofLog good log (nf 0)) := by
      unfold DS.flush
      rw [if_pos (show (ofLog good log (nf 0)).fuse = 0 from rfl)]
    rw [hw]
    exact (rflush_down hR).mono fun e w' ⟨he, hR', hC, hz⟩ => ⟨he, ⟨good, log, 0, hR', rfl, hcl, hlog, hok, by omega, by omega⟩, hC, hz⟩
  · have hf' : nf f ≠ 0 := fun e => h0 ((nf_zero f).1 e)
    have hw : (ofLog good log (nf f)).flush = (0, ofLog (logNow good log) [] (nf (burnt f))) := by
      unfold DS.flush
      rw [if_neg (show ¬ (ofLog good log (nf f)).fuse = 0 from hf')]
      simp only [ofLog, burnt_nf, logNow_nil]; rfl
    rw [hw] at hok2 ⊢
    exact (rflush_ok hR ⟨hf1, hf2⟩ h0 hsm (by omega) (fun x hx => (hlog x hx).1)).mono fun e w' ⟨he, hR', hC, hz⟩ => ⟨he, ⟨_, [], burnt f, hR', rfl, Nat.zero_le _, (fun x hx => by cases hx), hok2, burnt_in ⟨hf1, hf2⟩⟩, hC, hz⟩

theorem refs_crash {F : Nat → Prop} {p c : Nat} {s : DS} {w : World} (h : RefS w F p s c) (hF : ∀ k, F k → k < w.heap.size) (hc : c ≤ 1000000) (keep torn cut : Int)
    (hkp : -9223372036854775808 ≤ keep ∧ keep ≤ 9223372036854775807) (htn : -9223372036854775808 ≤ torn ∧ torn ≤ 9223372036854775807) (hct : -9223372036854775808 ≤ cut ∧ cut ≤ 9223372036854775807) :
    Calls Try.prog 23 #[.pointer (some ⟨p, 0, none⟩), .int .i64 keep, .int .i64 torn, .int .i64 cut] w fun e w' => e = .returned (.tuple #[]) ∧ RefS w' (More F w w') p (s.crash keep torn cut) c ∧ Chg F w w' := by
  obtain ⟨good, log, f, hR, rfl, hcl, hlog, hok, hf1, hf2⟩ := h
  have hok2 := crash_ok hok keep torn cut
  exact (rcrash_any hR hF hok.small (by omega) hok.good32 (fun x hx => (hlog x hx).2) (fun x hx => (hlog x hx).1) keep torn cut hkp htn hct).mono fun e w' ⟨he, hR', hC⟩ =>
    ⟨he, ⟨_, [], -1, hR', rfl, Nat.zero_le _, (fun x hx => by cases hx), hok2, by omega, by omega⟩, hC⟩

theorem refs_order {F : Nat → Prop} {p c : Nat} {s : DS} {w : World} (h : RefS w F p s c) (hF : ∀ k, F k → k < w.heap.size) (hc : c ≤ 1000000) :
    Calls Try.prog 25 #[.pointer (some ⟨p, 0, none⟩)] w fun e w' => ∃ a cap, e = .returned (.slice a s.order.length cap) ∧ Below w.heap.size w w' := by
  obtain ⟨good, log, f, hR, rfl, hcl, hlog, hok, hf1, hf2⟩ := h
  refine (rorder_any hR hF (by omega)).mono fun e w' ⟨v, he, ho, hb⟩ => ?_
  obtain ⟨a, cap, hv, _⟩ := owns_row encN_len ho
  exact ⟨a, cap, by rw [he, hv]; rfl, hb⟩

theorem refs_fuse {F : Nat → Prop} {p c : Nat} {s : DS} {w : World} (h : RefS w F p s c) (n : Int) (hn : -9223372036854775808 ≤ n ∧ n ≤ 9223372036854775807) :
    (∃ u, w.cell? ⟨p, 2, none⟩ = some u) ∧ w.frozen? ⟨p, 2, none⟩ = false ∧ RefS (w.setCell ⟨p, 2, none⟩ (.int .i64 n)) F p { s with fuse := nf n } c ∧ Chg F w (w.setCell ⟨p, 2, none⟩ (.int .i64 n)) := by
  obtain ⟨good, log, f, hR, rfl, hcl, hlog, hok, hf1, hf2⟩ := h
  obtain ⟨h1, h2⟩ := ref_fuse hR n
  have hc : ∃ u, w.cell? ⟨p, 2, none⟩ = some u := by obtain ⟨ag, cg, gs, al, cl, ls, r⟩ := hR; exact ⟨_, Arr.blk_cell r.blk 2⟩
  have hf : w.frozen? ⟨p, 2, none⟩ = false := by obtain ⟨ag, cg, gs, al, cl, ls, r⟩ := hR; exact Arr.blk_frozen r.blk 2
  exact ⟨hc, hf, ⟨good, log, n, h1, rfl, hcl, hlog, fuse_ok hok _, hn⟩, h2⟩

end Go.Proofs.Ytpbegchaneppfaa.Dsk
