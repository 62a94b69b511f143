/- Snap: a state's bytes, there and back (mathematics). -/
import Derived.Test.YtpmpigglekgfnaaSnpCod
import Derived.Test.YtpmpigglekgfnaaFdMem
import Derived.Test.YtpmpigglekgfnaaAlMem
import Derived.Test.YtpmpigglekgfnaaRtMem
import Derived.Test.YtpmpigglekgfnaaJobMem
namespace Go.Proofs.Ytpmpigglekgfnaa.Snp
open Oct
open Ent (int8 txt int8_len txt_len in_small)
open Tre (inI Al)
open Rte (Rt)
open Drw (Dw)
open Job (Jb)
set_option linter.unusedVariables false

structure Sn where
  seq : Int
  world : Int
  next : Int
  funds : List Tre.Fd
  allocs : List Al
  rates : List Rt
  jobs : List Jb
  keys : List ByteArray
def Sn.ok (s : Sn) : Prop := inI s.seq ∧ inI s.world ∧ inI s.next ∧ (∀ x ∈ s.funds, x.ok) ∧ (∀ x ∈ s.allocs, x.ok) ∧ (∀ x ∈ s.rates, x.ok) ∧ (∀ x ∈ s.jobs, x.ok) ∧ ∀ x ∈ s.keys, x.size ≤ maxLen
def zeroS : Sn := ⟨0, 0, 0, [], [], [], [], []⟩
def Fits (s : Sn) : Prop := (s.funds.length ≤ 8 ∧ s.allocs.length ≤ 16 ∧ s.rates.length ≤ 16 ∧ s.jobs.length ≤ 16 ∧ s.keys.length ≤ 8) ∧ (∀ x ∈ s.funds, x.name.size ≤ 16) ∧ (∀ x ∈ s.jobs, x.draws.length ≤ 16) ∧ ∀ x ∈ s.keys, x.size ≤ 16
instance (s : Sn) : Decidable (Fits s) := by unfold Fits; infer_instance
def cFd : Cod Tre.Fd := cMap (cTwo cTxt (cTwo cInt cInt)) (fun p => ⟨p.1, p.2.1, p.2.2⟩) (fun f => (f.name, f.par, f.lim)) (fun _ => rfl) (fun _ _ => rfl)
def cAl : Cod Al := cMap (cTwo cInt (cTwo cInt (cTwo cInt (cTwo cInt (cTwo cInt cInt))))) (fun p => ⟨p.1, p.2.1, p.2.2.1, p.2.2.2.1, p.2.2.2.2.1, p.2.2.2.2.2⟩) (fun f => (f.fund, f.from', f.till, f.avail, f.lien, f.spent)) (fun _ => rfl) (fun _ _ => rfl)
def cRt : Cod Rt := cMap (cTwo cInt (cTwo cInt cInt)) (fun p => ⟨p.1, p.2.1, p.2.2⟩) (fun f => (f.qos, f.from', f.price)) (fun _ => rfl) (fun _ _ => rfl)
def cDw : Cod Dw := cMap (cTwo cInt cInt) (fun p => ⟨p.1, p.2⟩) (fun f => (f.alloc, f.amt)) (fun _ => rfl) (fun _ _ => rfl)
def jobOf (l : List Int) (ds : List Dw) : Jb := ⟨l.getD 0 0, l.getD 1 0, l.getD 2 0, l.getD 3 0, l.getD 4 0, l.getD 5 0, l.getD 6 0, l.getD 7 0, l.getD 8 0, l.getD 9 0, l.getD 10 0, ds⟩
def eleven (j : Jb) : List Int := [j.id, j.fund, j.nodes, j.wall, j.qos, j.prio, j.price, j.state, j.start, j.mask, j.used]
theorem eleven_of : ∀ l : List Int, l.length = 11 → ∀ ds, eleven (jobOf l ds) = l
  | [a, b, c, d, e, f, g, h, i, j, k], _, _ => rfl
def cJb : Cod Jb := cMap (cTwo (cRep cInt 11) (cLst cDw 16 (by omega))) (fun p => jobOf p.1 p.2) (fun j => (eleven j, j.draws)) (fun _ => rfl) (fun x h => by
  obtain ⟨l, ds⟩ := x
  obtain ⟨⟨h1, _⟩, _⟩ := h
  show (eleven (jobOf l ds), ds) = (l, ds)
  rw [eleven_of l h1])
def cSn : Cod Sn := cMap (cTwo cInt (cTwo cInt (cTwo cInt (cTwo (cLst cFd 8 (by omega)) (cTwo (cLst cAl 16 (by omega)) (cTwo (cLst cRt 16 (by omega)) (cTwo (cLst cJb 16 (by omega)) (cLst cTxt 8 (by omega)))))))))
  (fun p => ⟨p.1, p.2.1, p.2.2.1, p.2.2.2.1, p.2.2.2.2.1, p.2.2.2.2.2.1, p.2.2.2.2.2.2.1, p.2.2.2.2.2.2.2⟩) (fun s => (s.seq, s.world, s.next, s.funds, s.allocs, s.rates, s.jobs, s.keys)) (fun _ => rfl) (fun _ _ => rfl)
def encT (s : Sn) : List UInt8 := cSn.enc s
def encE (s : Sn) : Int := if Fits s then 0 else 3
def encL (s : Sn) : List UInt8 := if Fits s then encT s else []
def decT (l : List UInt8) : Option Sn := cSn.all l
def decE (l : List UInt8) : Int := if (decT l).isSome then 0 else 3
def decV (l : List UInt8) : Sn := (decT l).getD zeroS

/-! ### What may be -/

theorem jb_ok {j : Jb} (h : j.ok) (h2 : j.draws.length ≤ 16) : cJb.ok j := by
  obtain ⟨h1, h3, h4, h5, h6, h7, h8, h9, h10, h11, h12, h13⟩ := h
  refine ⟨⟨rfl, fun x hx => ?_⟩, h2, fun d hd => h13 d hd⟩
  simp only [eleven, List.mem_cons, List.not_mem_nil, or_false] at hx
  rcases hx with rfl | rfl | rfl | rfl | rfl | rfl | rfl | rfl | rfl | rfl | rfl <;> assumption
theorem ok_jb {j : Jb} (h : cJb.ok j) : j.ok ∧ j.draws.length ≤ 16 := by
  obtain ⟨⟨_, h1⟩, h2, h3⟩ := h
  have h : ∀ x ∈ eleven j, inI x := h1
  refine ⟨⟨h _ (by simp [eleven]), h _ (by simp [eleven]), h _ (by simp [eleven]), h _ (by simp [eleven]), h _ (by simp [eleven]), h _ (by simp [eleven]), h _ (by simp [eleven]), h _ (by simp [eleven]), h _ (by simp [eleven]), h _ (by simp [eleven]), h _ (by simp [eleven]), fun d hd => h3 d hd⟩, h2⟩
theorem ok_of {s : Sn} (hf : Fits s) (h : s.ok) : cSn.ok s := by
  obtain ⟨⟨f1, f2, f3, f4, f5⟩, f6, f7, f8⟩ := hf
  obtain ⟨h1, h2, h3, h4, h5, h6, h7, h8⟩ := h
  exact ⟨h1, h2, h3, ⟨f1, fun x hx => ⟨f6 x hx, (h4 x hx).2.1, (h4 x hx).2.2⟩⟩, ⟨f2, fun x hx => h5 x hx⟩, ⟨f3, fun x hx => h6 x hx⟩, ⟨f4, fun x hx => jb_ok (h7 x hx) (f7 x hx)⟩, f5, fun x hx => f8 x hx⟩
theorem max16 {n : Nat} (h : n ≤ 16) : n ≤ maxLen := by unfold maxLen; omega
theorem of_ok {s : Sn} (h : cSn.ok s) : Fits s ∧ s.ok := by
  obtain ⟨h1, h2, h3, ⟨f1, h4⟩, ⟨f2, h5⟩, ⟨f3, h6⟩, ⟨f4, h7⟩, f5, h8⟩ := h
  exact ⟨⟨⟨f1, f2, f3, f4, f5⟩, fun x hx => (h4 x hx).1, fun x hx => (ok_jb (h7 x hx)).2, fun x hx => h8 x hx⟩, h1, h2, h3, fun x hx => ⟨max16 (h4 x hx).1, (h4 x hx).2.1, (h4 x hx).2.2⟩, fun x hx => h5 x hx, fun x hx => h6 x hx, fun x hx => (ok_jb (h7 x hx)).1, fun x hx => max16 (h8 x hx)⟩

/-! ### There and back -/

theorem dec_enc {t : Sn} (hf : Fits t) (hok : t.ok) : decT (encT t) = some t := cSn.dec_enc (ok_of hf hok)
theorem enc_dec {l : List UInt8} {t : Sn} (h : decT l = some t) : encT t = l ∧ Fits t ∧ t.ok := by
  obtain ⟨h1, h2⟩ := cSn.enc_dec h
  exact ⟨h1, of_ok h2⟩
theorem enc_some (t : Sn) : 1 ≤ (encT t).length := by
  show 1 ≤ (int8 t.seq ++ _).length
  rw [List.length_append, int8_len]
  omega
theorem dec_more {t : Sn} (hf : Fits t) (hok : t.ok) (x : UInt8) : decT (encT t ++ [x]) = none := cSn.more (ok_of hf hok) (by simp)
theorem dec_less {t : Sn} (hf : Fits t) (hok : t.ok) {k : Nat} (hk : k < (encT t).length) : decT ((encT t).take k) = none := cSn.less (ok_of hf hok) hk
theorem enc_inj {t u : Sn} (hf : Fits t) (hok : t.ok) (hf2 : Fits u) (hok2 : u.ok) (h : encT t = encT u) : t = u := cSn.inj (ok_of hf hok) (ok_of hf2 hok2) h
theorem enc_yes {t : Sn} (h : Fits t) : encE t = 0 ∧ encL t = encT t := by unfold encE encL; rw [if_pos h, if_pos h]; exact ⟨rfl, rfl⟩
theorem enc_no {t : Sn} (h : ¬ Fits t) : encE t = 3 ∧ encL t = [] := by unfold encE encL; rw [if_neg h, if_neg h]; exact ⟨rfl, rfl⟩
theorem dec_ok {l : List UInt8} {t : Sn} (h : decT l = some t) : decV l = t ∧ decE l = 0 := by unfold decV decE; rw [h]; exact ⟨rfl, rfl⟩
theorem dec_no {l : List UInt8} (h : decT l = none) : decV l = zeroS ∧ decE l = 3 := by unfold decV decE; rw [h]; exact ⟨rfl, rfl⟩

/-! ### Read step by step -/

theorem sn_of {l : List UInt8} {s1 s2 s3 s4 s5 s6 s7 s8 : RS} {a b c : Int} {fs : List Tre.Fd} {al : List Al} {rs : List Rt} {js : List Jb} {ks : List ByteArray} (h1 : rInt (some l) = (a, s1)) (h2 : rInt s1 = (b, s2)) (h3 : rInt s2 = (c, s3)) (h4 : (cLst cFd 8 (by omega)).dec s3 = (fs, s4)) (h5 : (cLst cAl 16 (by omega)).dec s4 = (al, s5)) (h6 : (cLst cRt 16 (by omega)).dec s5 = (rs, s6)) (h7 : (cLst cJb 16 (by omega)).dec s6 = (js, s7)) (h8 : (cLst cTxt 8 (by omega)).dec s7 = (ks, s8)) :
    decT l = if s8 = some [] then some ⟨a, b, c, fs, al, rs, js, ks⟩ else none :=
  all_of (A := cSn) (show cSn.dec (some l) = (⟨a, b, c, fs, al, rs, js, ks⟩, s8) from map_of (two_of (A := cInt) (s := some l) (x := a) (s1 := s1) h1 (two_of (A := cInt) (s := s1) (x := b) (s1 := s2) h2 (two_of (A := cInt) (s := s2) (x := c) (s1 := s3) h3 (two_of h4 (two_of h5 (two_of h6 (two_of h7 h8))))))))
theorem fd_of {s s1 s2 s3 : RS} {n : ByteArray} {p q : Int} (h1 : rText 16 s = (n, s1)) (h2 : rInt s1 = (p, s2)) (h3 : rInt s2 = (q, s3)) : cFd.dec s = (⟨n, p, q⟩, s3) := map_of (A := cTwo cTxt (cTwo cInt cInt)) (two_of (A := cTxt) h1 (two_of (A := cInt) (B := cInt) h2 h3))
theorem al_of {s s1 s2 s3 s4 s5 s6 : RS} {a b c d e f : Int} (h1 : rInt s = (a, s1)) (h2 : rInt s1 = (b, s2)) (h3 : rInt s2 = (c, s3)) (h4 : rInt s3 = (d, s4)) (h5 : rInt s4 = (e, s5)) (h6 : rInt s5 = (f, s6)) : cAl.dec s = (⟨a, b, c, d, e, f⟩, s6) :=
  map_of (A := cTwo cInt (cTwo cInt (cTwo cInt (cTwo cInt (cTwo cInt cInt))))) (two_of (A := cInt) h1 (two_of (A := cInt) h2 (two_of (A := cInt) h3 (two_of (A := cInt) h4 (two_of (A := cInt) (B := cInt) h5 h6)))))
theorem rt_of {s s1 s2 s3 : RS} {a b c : Int} (h1 : rInt s = (a, s1)) (h2 : rInt s1 = (b, s2)) (h3 : rInt s2 = (c, s3)) : cRt.dec s = (⟨a, b, c⟩, s3) := map_of (A := cTwo cInt (cTwo cInt cInt)) (two_of (A := cInt) h1 (two_of (A := cInt) (B := cInt) h2 h3))
theorem dw_of {s s1 s2 : RS} {a b : Int} (h1 : rInt s = (a, s1)) (h2 : rInt s1 = (b, s2)) : cDw.dec s = (⟨a, b⟩, s2) := map_of (A := cTwo cInt cInt) (two_of (A := cInt) (B := cInt) h1 h2)
theorem jb_of {s s1 s2 : RS} {l : List Int} {ds : List Dw} (h1 : rep cInt 11 s = (l, s1)) (h2 : (cLst cDw 16 (by omega)).dec s1 = (ds, s2)) : cJb.dec s = (jobOf l ds, s2) := map_of (two_of (A := cRep cInt 11) h1 h2)
end Go.Proofs.Ytpmpigglekgfnaa.Snp
