/- Octet: a Reader that is made; the document's own words on what is put and read. -/
import Derived.Test.YtijenfmkgedkfaaOctPut
namespace Go.Proofs.Ytijenfmkgedkfaa.Oct
open Go.RowKit
open Go.Sort
open Kit
set_option linter.unusedVariables false

theorem nil_slice (a : Option Addr) (len cap : Nat) (h : a = none → len = 0 ∧ cap = 0) : (Value.slice a len cap = .slice none 0 0 ↔ a = none) := by
  constructor
  · intro e; injection e
  · intro e; obtain ⟨rfl, rfl⟩ := h e; rw [e]

/-- 'append' of bytes to bytes of the call's own. -/
theorem append_b {w : World} {ops : Array Oper} {rest : List Oper} {o : Oper} {A : Act} {Q : Exit → Act → World → Prop} (hgd : o.guard = none) (s x : Operand)
    (ho : o.op = .call { callee := .builtin .append, args := #[s, x], argTypes := #[22, 22] })
    (base : Nat) (v : Value) (l : List UInt8) (hv : A.eval s = v) (hown : OwnB w base v l) (ad : Option Addr) (m c : Nat) (k : List UInt8) (hx : A.eval x = .slice ad m c) (hk : k.length = m) (hrow : RowB w ad k) (hnil : ad = none → m = 0 ∧ c = 0)
    (hbytes : l.length + m ≤ 150000000000000) (hbase : base ≤ w.heap.size)
    (h : ∀ v' w', OwnB w' base v' (l ++ k) → Below base w w' → wpList Try.prog ops Q rest (A.put o.dst v') w') : wpList Try.prog ops Q (o :: rest) A w := by
  obtain ⟨i0, hi, hz0, hz1, hz2⟩ := info_parts info8
  cases ad with
  | none =>
    obtain ⟨rfl, rfl⟩ := hnil rfl
    obtain rfl : k = [] := List.length_eq_zero_iff.1 hk
    exact wpList_append_own_none hgd s x _ ho base 5 i0 1 Try.underlying22 hi v l.length _ hv hown hx (h v w (by rw [List.append_nil]; exact hown) (Below.refl _ _))
  | some q =>
    refine wpList_append_own_wide _ hgd s x _ ho base 5 i0 (.int .u8 0) 1 1 Try.underlying22 hi hz0 hz1 hz2 rfl (by decide) v l.length _ hv (own_iff.1 hown) q m c (cellsB k) hx (by rw [cellsB_length, hk, Nat.mul_one]) (row_cells hrow q rfl) (cellsB_one k) (by unfold maxLen; omega) (by omega) hbase ?_
    intro v' w' h1 h2 _
    refine h v' w' (own_iff.2 (by rw [List.length_append, hk, cellsB_append]; exact h1)) ((Below.refl _ _).grown h2 hbase fun k hk => ((own_iff.1 hown).lt k hk).1)

theorem own_empty (w : World) (base : Nat) (hb : base ≤ w.heap.size) : OwnB (w.alloc (.cells #[] 5)) base (.slice (some ⟨w.heap.size, 0, none⟩) 0 0) [] :=
  own_iff.2 (World.ownsRow_made w #[] 0 hb (by unfold maxLen; omega) rfl)
theorem row_alloc {w : World} {a : Option Addr} {l : List UInt8} (h : RowB w a l) (o : Obj) : RowB (w.alloc o) a l := row_keep encB_len h (below_alloc w o)

set_option maxHeartbeats 1000000 in
theorem clone_any (a : Option Addr) (len cap : Nat) (l : List UInt8) (w : World) (hl : l.length = len) (hn : a = none → len = 0 ∧ cap = 0) (hE : RowB w a l) (hm : len ≤ 140737488355328) :
    Calls Try.prog 21 #[.slice a len cap] w fun e w' => ∃ v, e = .returned v ∧ OwnB w' w.heap.size v l ∧ Below w.heap.size w w' := by
  subst hl
  obtain ⟨i0, hi, hz0, hz1, hz2⟩ := info_parts info8
  cases a with
  | none =>
    obtain ⟨h1, rfl⟩ := hn rfl
    have : l = [] := List.length_eq_zero_iff.1 h1
    subst this
    have he : ∀ w : World, (binOp .eql 22 (.slice none 0 0) (.slice none 0 0)).run Try.prog w = .ok (.bool true) w := fun _ => rfl
    go_enter Try.func21, Try.ntmps21
    go_wp2
    go_ret
    exact ⟨_, rfl, owns_nil _ _ _, Below.refl _ _⟩
  | some q =>
    have hE1 := row_cells hE q rfl
    have he : ∀ w : World, (binOp .eql 22 (.slice (some q) l.length cap) (.slice none 0 0)).run Try.prog w = .ok (.bool false) w := fun _ => rfl
    go_enter Try.func21, Try.ntmps21
    go_wp2_with (first | (at_builtin; refine append_b rfl _ _ rfl w.heap.size _ [] rfl (own_empty w _ (Nat.le_refl _)) (some q) l.length cap l rfl rfl (row_alloc hE _) hn (by simp; omega) (by simp) ?_) | go_in)
    intro v w1 hown hb
    go_wp2
    go_ret
    exact ⟨_, rfl, hown, (below_alloc w _).trans hb⟩

theorem new_made {w1 : World} {base cap : Nat} {a : Option Addr} {l : List UInt8} {T : TypeId} (hown : OwnB w1 base (.slice a l.length cap) l) (hb : base ≤ w1.heap.size) (h1 : l.length ≤ cap) (h2 : cap ≤ maxLen) (h3 : a = none → cap = 0) (h4 : RowB w1 a l) :
    Rdr base (w1.alloc (.cells #[.slice a l.length cap, .bool false] T)) w1.heap.size (some l) := by
  refine ⟨a, cap, by rw [World.cell?_alloc_new]; rfl, by rw [World.cell?_alloc_new]; rfl, by simp [go_sem], by simp [go_sem], h1, h2, h3, row_alloc h4 _, hb, fun q hq => ?_⟩
  subst hq
  have := (own_iff.1 hown).lt q.block rfl
  simp
  omega

set_option maxHeartbeats 1000000 in
theorem new_any (a : Option Addr) (len cap : Nat) (l : List UInt8) (w : World) (hl : l.length = len) (hn : a = none → len = 0 ∧ cap = 0) (hE : RowB w a l) (hm : len ≤ 140737488355328) :
    Calls Try.prog 13 #[.slice a len cap] w fun e w' => ∃ p, e = .returned (.pointer (some ⟨p, 0, none⟩)) ∧ Rdr w.heap.size w' p (some l) ∧ Below w.heap.size w w' := by
  subst hl
  go_enter Try.func13, Try.ntmps13
  go_wp2_with fail
  refine (clone_any a l.length cap l w rfl hn hE hm).mono ?_
  rintro e w1 ⟨v, rfl, hown, hb⟩
  obtain ⟨a', cap', rfl, h1, h2, h3, h4⟩ := own_row hown
  have hR := Lib.hid (fun T => new_made (T := T) hown hb.size h1 h2 h3 h4)
  have hB := Lib.hid (fun o => hb.alloc hb.size o)
  clear hown hb h4
  go_wp2
  go_ret
  exact ⟨_, rfl, hR.out _, hB.out _⟩

/-! ### The document's own words -/

theorem row_one (w : World) {v : Value} {b : UInt8} {T : TypeId} (h : v = .int .u8 (b.toNat : Int)) : RowB (w.alloc (.cells #[v] T)) (some ⟨w.heap.size, 0, none⟩) [b] :=
  Kit.row_new encB_len w [b] #[v] T _ rfl (by subst h; rfl)
theorem row_two (w : World) {v v' : Value} {b b' : UInt8} {T : TypeId} (h : v = .int .u8 (b.toNat : Int)) (h' : v' = .int .u8 (b'.toNat : Int)) : RowB (w.alloc (.cells #[v, v'] T)) (some ⟨w.heap.size, 0, none⟩) [b, b'] :=
  Kit.row_new encB_len w [b, b'] #[v, v'] T _ rfl (by subst h h'; rfl)
theorem byte_w (n : Int) (k : Nat) : Value.int .u8 (IntKind.u64.wrap n / 2 ^ (8 * k) % 256) = .int .u8 ((UInt8.ofNat (toU64 n / 2 ^ (8 * k))).toNat : Int) := by rw [wrap_u]; exact byte_val _ _
theorem be_two (n : Nat) : beB 2 n = [UInt8.ofNat (n / 256), UInt8.ofNat (n % 256)] := by
  show [UInt8.ofNat (n / 256 ^ 1), UInt8.ofNat (n / 256 ^ 0)] = _
  rw [Nat.pow_one, Nat.pow_zero, Nat.div_one]
  congr 2
  apply UInt8.toNat.inj
  rw [u8_of, u8_of, Nat.mod_mod]
/-- '[]byte(s)' lies in memory. -/
theorem row_string (w : World) (s : ByteArray) (cap : Nat) (T : TypeId) (fr : Nat × Nat) : RowB (w.alloc (.cells (bytesRow s cap) T fr)) (some ⟨w.heap.size, 0, none⟩) s.data.toList := by
  refine .inr ⟨_, _, rfl, fun j hj i hi => ?_⟩
  have : i = 0 := by omega
  subst this
  rw [Nat.mul_one, Nat.zero_add, Nat.add_zero, World.cell?_alloc_mark, bytesRow_at s cap j (by simpa using hj)]
  simp [encB]

set_option maxHeartbeats 4000000 in
theorem rint_any (a : Option Addr) (len cap : Nat) (n : Int) (l : List UInt8) (w : World) (hl : l.length = len) (hn : a = none → len = 0 ∧ cap = 0) (hE : RowB w a l) (hm : len ≤ 140737488355328) :
    Calls Try.prog 11 #[.slice a len cap, .int .i64 n] w fun e w' => ∃ v, e = .returned v ∧ OwnB w' w.heap.size v (l ++ beB 8 (toU64 n)) ∧ Below w.heap.size w w' := by
  have hlt := toU64_lt n
  subst hl
  go_enter Try.func11, Try.ntmps11
  go_wp2_with (first | (at_builtin; refine append_b rfl _ _ rfl w.heap.size _ [] rfl (own_empty w _ (Nat.le_refl _)) a l.length cap l rfl rfl (row_alloc hE _) hn (by simp; omega) (by simp) ?_) | go_in)
  intro v w1 hown hb
  have HO := Lib.hid hown
  have HB := Lib.hid ((below_alloc w _).trans hb)
  clear hown hb
  go_wp2
  go_loopw [5, 6] (fun v i wr => ∃ (k : Nat) (L : List UInt8), k ≤ 8 ∧ L ++ beB k (toU64 n) = l ++ beB 8 (toU64 n) ∧ i = .int .i64 ((k : Int) - 1) ∧ OwnB wr w.heap.size v L ∧ Below w.heap.size w wr) (fun _ i _ => (intOf i + 1).toNat)
  case atStart => exact ⟨8, l, Nat.le_refl _, rfl, rfl, HO.out, HB.out⟩
  case round =>
    obtain ⟨k, L, hk, hL, rfl, hown, hbel⟩ := hrel
    have hlen : L.length + k = l.length + 8 := by have := congrArg List.length hL; simpa [beB_length] using this
    cases k with
    | zero =>
      have HL : Hid (L = l ++ beB 8 (toU64 n)) := Lib.hid (by simpa [beB] using hL)
      have HR := Lib.hid hown
      clear hL hown
      go_wp2
      go_ret
      exact ⟨_, rfl, by rw [← HL.out]; exact HR.out, hbel⟩
    | succ k =>
      have hsz : w.heap.size ≤ wr.heap.size := hbel.size
      go_wp2_with (first | (at_builtin; refine append_b rfl _ _ rfl w.heap.size _ L rfl (owns_alloc hown _) (some ⟨wr.heap.size, 0, none⟩) 1 1 [UInt8.ofNat (toU64 n / 2 ^ (8 * k))] rfl rfl ?c1 (fun h => by cases h) (by omega) (by simp; omega) ?_) | go_in)
      case c1 => exact row_one wr (byte_w n k)
      intro v' w2 hown2 hb2
      have hR := Lib.hid (show (L ++ [UInt8.ofNat (toU64 n / 2 ^ (8 * k))]) ++ beB k (toU64 n) = l ++ beB 8 (toU64 n) by rw [← hL, be_shift]; simp)
      have hB := Lib.hid ((hbel.alloc hsz _).trans hb2)
      have hO := Lib.hid hown2
      clear hown hown2 hb2 hL
      go_wp2
      go_roundw
      case rel => exact ⟨k, L ++ [UInt8.ofNat (toU64 n / 2 ^ (8 * k))], by omega, hR.out, by go_num, hO.out, hB.out⟩
      case measure => simp [intOf]

set_option maxHeartbeats 4000000 in
theorem rtext_any (a : Option Addr) (len cap : Nat) (s : ByteArray) (l : List UInt8) (w : World) (hl : l.length = len) (hn : a = none → len = 0 ∧ cap = 0) (hE : RowB w a l) (hm : len ≤ 140737488355328) (hs : s.size ≤ 65535) :
    Calls Try.prog 12 #[.slice a len cap, .string s] w fun e w' => ∃ v, e = .returned v ∧ OwnB w' w.heap.size v (l ++ beB 2 s.size ++ s.data.toList) ∧ Below w.heap.size w w' := by
  subst hl
  have kc := fun (W : World) => run_bytes_of_string (P := Try.prog) W 9 22 5 s Try.underlying9 Try.underlying22 Try.underlying5
  go_enter Try.func12, Try.ntmps12
  go_wp2_with (first | (at_builtin; refine append_b rfl (.tmp 6) (.tmp 7) rfl w.heap.size _ [] rfl (own_empty w _ (Nat.le_refl _)) a l.length cap l rfl rfl (row_alloc hE _) hn (by simp; omega) (by simp) ?_) | go_in)
  intro v w1 hown hb
  have hsz : w.heap.size ≤ w1.heap.size := by have := hb.size; simp at this; omega
  have HB := Lib.hid ((below_alloc w _).trans hb)
  clear hb
  go_wp2_with (first | (at_builtin; refine append_b rfl (.tmp 8) (.tmp 17) rfl w.heap.size _ l rfl (owns_alloc hown _) (some ⟨w1.heap.size, 0, none⟩) 2 2 (beB 2 s.size) rfl (beB_length _ _) ?c1 (fun h => by cases h) (by omega) (by simp; omega) ?_) | go_in)
  case c1 => rw [be_two]; exact row_two w1 (by rw [u8_of]; congr 1; omega) (by rw [u8_of]; congr 1; omega)
  intro v2 w2 hown2 hb2
  have hsz2 : w.heap.size ≤ w2.heap.size := by have := hb2.size; simp at this; omega
  have hlen : (l ++ beB 2 s.size).length = l.length + 2 := by rw [List.length_append, beB_length]
  have hsl : s.data.toList.length = s.size := by rw [Array.length_toList]; rfl
  have HB2 := Lib.hid ((HB.out.alloc hsz _).trans hb2)
  clear hb2
  go_wp2_with (first | (at_builtin; refine append_b rfl (.tmp 19) (.tmp 21) rfl w.heap.size _ (l ++ beB 2 s.size) rfl (owns_alloc (owns_drew hown2) _) (some ⟨w2.heap.size, 0, none⟩) s.size _ s.data.toList rfl hsl (row_string w2.drew s _ _ _) (fun h => by cases h) (by omega) (by simp; omega) ?_) | go_in)
  intro v3 w3 hown3 hb3
  go_wp2
  go_ret
  exact ⟨_, rfl, by rw [List.append_assoc]; exact hown3, (HB2.out.trans (Below.drew (Below.refl _ _))).trans (((Below.refl _ _).alloc (by simp; omega) _).trans hb3)⟩

end Go.Proofs.Ytijenfmkgedkfaa.Oct
