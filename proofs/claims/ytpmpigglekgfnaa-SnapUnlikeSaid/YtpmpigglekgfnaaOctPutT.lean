/- Octet: texts that are put. -/
import Derived.Test.YtpmpigglekgfnaaOctPut
import Derived.Test.YtpmpigglekgfnaaOctTxt
namespace Go.Proofs.Ytpmpigglekgfnaa.Oct
set_option maxRecDepth 100000
open Go.RowKit
open Go.Sort
open Kit
set_option linter.unusedVariables false

/-- 'append(b, s...)' where there is room. -/
theorem wpList_append_str_fits {P : Program} {w : World} {ops : Array Oper} {rest : List Oper} {o : Oper} {a : Act} {Q : Exit → Act → World → Prop} (hgd : o.guard = none) (sl x : Operand) (t u : TypeId)
    (ho : o.op = .call { callee := .builtin .append, args := #[sl, x], argTypes := #[t, u] })
    (base : Nat) (e : TypeId) (i : TypeInfo) (ht : P.underlying t = some (.slice e)) (hu : P.underlying u = some .string) (hi : P.info? e = some i) (hsize : i.size = 1)
    (g n cap : Nat) (xs : List Value) (hs : a.eval sl = .slice (some ⟨g, 0, none⟩) n cap) (hown : w.ownsRow base e 1 (.slice (some ⟨g, 0, none⟩) n cap) n xs) (s : ByteArray) (hx : a.eval x = .string s) (hroom : n + s.size ≤ cap)
    (h : ∀ w', w'.ownsRow base e 1 (.slice (some ⟨g, 0, none⟩) (n + s.size) cap) (n + s.size) (xs ++ Lib.strCells s) → w.grownBy w' (some g) → wpList P ops Q rest (a.put o.dst (.slice (some ⟨g, 0, none⟩) (n + s.size) cap)) w') : wpList P ops Q (o :: rest) a w := by
  refine wpList_plain hgd fun K hK => ?_
  have hxl : xs.length = n := by simpa using hown.1
  rcases hown.2 with ⟨he, _⟩ | ⟨g', cap', cur, he, hbg, hg, hnc, hcm, hcs, htake⟩
  · cases he
  · injection he with e1 e2 e3
    injection e1 with e1
    injection e1 with e1
    subst e1 e3
    have hcs' : cur.size = cap := by simpa using hcs
    have hr := Lib.run_append_room_string (P := P) w t u o.type e i ht hu hi hsize g n cap cur hg s hroom (by omega)
    unfold Oper.wp execOp
    simp only [ho, resolve, invoke, builtin, Sem.run_bind, Sem.run_pure, Result.andThen_ok, List.map_toArray, List.map_cons, List.map_nil, hs, hx, hr]
    have hlen : (xs ++ Lib.strCells s).length = (n + s.size) * 1 := by rw [List.length_append, hxl, Lib.strCells_length, Nat.mul_one]
    refine hK _ _ (h _ ⟨hlen, .inr ⟨g, cap, _, rfl, hbg, setRow_heap w g cur _ e _ hg, hroom, hcm, ?_, ?_⟩⟩ ⟨rfl, rfl, rfl, by simp, fun k _ hk => setRow_other w g k _ (fun e => hk (by simp [e]))⟩)
    · simp only [List.size_toArray, List.length_append, List.length_take, List.length_drop, Array.length_toList, Lib.strCells_length]
      omega
    · have ht' : cur.toList.take n = xs := by simpa using htake
      rw [ht', ← hlen]
      exact List.take_left

theorem text_made {w w2 w3 : World} {base g cap n : Nat} {l : List UInt8} {s : ByteArray} (hbg : base ≤ g) (hb : Below base w w2) (hsz : base ≤ w.heap.size) (hl : l.length = n)
    (h : w3.ownsRow base 5 1 (.slice (some ⟨g, 0, none⟩) (n + s.size) cap) (n + s.size) (cellsB l ++ Lib.strCells s)) (hgr : w2.grownBy w3 (some g)) (hc : n + s.size ≤ cap) :
    OwnR w3 base g cap (l ++ s.data.toList) ∧ Below base w w3 := by
  have e : s.data.toList.length = s.size := by rw [Array.length_toList]; rfl
  refine ⟨⟨hbg, by rw [List.length_append, hl, e]; exact hc, own_iff.2 ?_⟩, hb.trans (grown_below hgr (Nat.le_trans hsz hb.size) hbg)⟩
  rw [cellsB_append, List.length_append, hl, e]
  exact h

set_option maxHeartbeats 1000000 in
theorem text_any (a : Option Addr) (len cap : Nat) (s : ByteArray) (l : List UInt8) (w : World) (hl : l.length = len) (hn : a = none → len = 0 ∧ cap = 0) (hE : RowB w a l) (hm : len ≤ 140737488355328) (hs : s.size ≤ 65535) :
    Calls Try.prog 37 #[.slice a len cap, .string s] w fun e w' => ∃ g cap, e = .returned (.tuple #[.slice (some ⟨g, 0, none⟩) (len + 2 + s.size) cap, .int .i64 0]) ∧ OwnR w' w.heap.size g cap (l ++ beB 2 s.size ++ s.data.toList) ∧ Below w.heap.size w w' := by
  subst hl
  obtain ⟨i0, hi, hz0, hz1, hz2⟩ := info_parts info8
  go_enter Try.func37, Try.ntmps37
  go_wp2_with fail
  refine (roomy_any a l.length cap (2 + s.size) l w rfl hn hE (by omega)).mono ?_
  rintro e w1 ⟨rfl, hown, hbel⟩
  go_wp2_with fail
  refine (put_any w.heap.size w.heap.size (l.length + (2 + s.size)) s.size 2 l w1 (by omega) (by omega) ⟨Nat.le_refl _, by omega, hown⟩ (by omega) (by omega) hbel.size).mono ?_
  rintro e w2 ⟨rfl, hR, hb2⟩
  have hlen : (l ++ beB 2 s.size).length = l.length + 2 := by rw [List.length_append, beB_length]
  have ho := own_iff.1 hR.2.2
  rw [hlen] at ho
  go_wp2_with (first | (at_builtin; refine wpList_append_str_fits rfl _ _ 29 9 rfl w.heap.size 5 i0 Try.underlying29 Try.underlying9 hi hz1 w.heap.size (l.length + 2) (l.length + (2 + s.size)) _ rfl ho s rfl (by omega) ?_) | go_in)
  intro w3 hown3 hgr3
  have hM := Lib.hid (text_made (Nat.le_refl _) (hbel.trans hb2) (Nat.le_refl _) hlen hown3 hgr3 (by omega))
  clear hown3 hgr3 ho hR hown
  go_wp2
  go_ret2
  exact ⟨_, _, rfl, hM.out.1, hM.out.2⟩

set_option maxHeartbeats 1000000 in
theorem text_over (v : Value) (s : ByteArray) (w : World) (hm : s.size ≤ maxLen) (hs : 65535 < s.size) :
    Calls Try.prog 37 #[v, .string s] w fun e w' => e = .returned (.tuple #[.slice none 0 0, .int .i64 2]) ∧ w = w' := by
  unfold maxLen at hm
  go_enter Try.func37, Try.ntmps37
  go_wp2
  go_ret2
  exact ⟨rfl, rfl⟩

end Go.Proofs.Ytpmpigglekgfnaa.Oct
