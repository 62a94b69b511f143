/- Octet: the document's own words on a text that is put. -/
import Derived.Test.YtpmpigglekgfnaaOctPur
import Derived.BigFrame
import Derived.BigQuiet
import Derived.Deep.DeepCutAuto
import Derived.WalkLawsBesides
import Derived.LoopTactic
namespace Go.Proofs.Ytpmpigglekgfnaa.Oct
open Go.RowKit
open Go.Sort
open Kit
set_option linter.unusedVariables false

set_option maxHeartbeats 4000000 in
theorem rtext_any (a : Option Addr) (len cap : Nat) (s : ByteArray) (l : List UInt8) (w : World) (hl : l.length = len) (hn : a = none → len = 0 ∧ cap = 0) (hE : RowB w a l) (hm : len ≤ 140737488355328) (hs : s.size ≤ 65535) :
    Calls Try.prog 18 #[.slice a len cap, .string s] w fun e w' => ∃ v, e = .returned v ∧ OwnB w' w.heap.size v (l ++ beB 2 s.size ++ s.data.toList) ∧ Below w.heap.size w w' := by
  subst hl
  have kc := fun (W : World) => run_bytes_of_string (P := Try.prog) W 9 29 5 s Try.underlying9 Try.underlying29 Try.underlying5
  go_enter Try.func18, Try.ntmps18
  go_wp2_with (first | (at_builtin; refine append_b rfl (.tmp 6) (.tmp 7) rfl w.heap.size _ [] rfl (own_empty w _ (Nat.le_refl _)) a l.length cap l rfl rfl (row_alloc hE _) hn (by simp; omega) (by simp) ?_) | go_in)
  intro v w1 hown hb
  have hsz : w.heap.size ≤ w1.heap.size := by have := hb.size; simp at this; omega
  have HB := Lib.hid ((below_alloc w _).trans hb)
  clear hb
  go_wp2_with (first | (at_builtin; refine append_b rfl (.tmp 8) (.tmp 17) rfl w.heap.size _ l rfl (owns_alloc hown _) (some ⟨w1.heap.size, 0, none⟩) 2 2 (beB 2 s.size) rfl (beB_length _ _) ?c1 (fun h => by cases h) (by omega) (by simp; omega) ?_) | go_in)
  case c1 => rw [be_two]; exact row_two w1 (by rw [u8_of]; congr 1; omega) (by rw [u8_of]; congr 1; omega)
  intro v2 w2 hown2 hb2
  have hsz2 : w.heap.size ≤ w2.heap.size := by have := hb2.size; simp at this; omega
  have hlen : (l ++ beB 2 s.size).length = l.length + 2 := by rw [List.length_append, beB_length]
  have hsl : s.data.toList.length = s.size := by rw [Array.length_toList]; rfl
  have HB2 := Lib.hid ((HB.out.alloc hsz _).trans hb2)
  clear hb2
  go_wp2_with (first | (at_builtin; refine append_b rfl (.tmp 19) (.tmp 21) rfl w.heap.size _ (l ++ beB 2 s.size) rfl (owns_alloc (owns_drew hown2) _) (some ⟨w2.heap.size, 0, none⟩) s.size _ s.data.toList rfl hsl (row_string w2.drew s _ _ _) (fun h => by cases h) (by omega) (by simp; omega) ?_) | go_in)
  intro v3 w3 hown3 hb3
  go_wp2
  go_ret
  exact ⟨_, rfl, by rw [List.append_assoc]; exact hown3, (HB2.out.trans (Below.drew (Below.refl _ _))).trans (((Below.refl _ _).alloc (by simp; omega) _).trans hb3)⟩

end Go.Proofs.Ytpmpigglekgfnaa.Oct
