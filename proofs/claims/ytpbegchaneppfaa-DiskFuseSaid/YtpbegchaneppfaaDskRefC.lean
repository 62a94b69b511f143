/- Disk: the document's own disk: a crash. -/
import Derived.Test.YtpbegchaneppfaaDskRefO
namespace Go.Proofs.Ytpbegchaneppfaa.Dsk
open Go.RowKit
open Go.Sort
open Kit
open Oct
open Foot
set_option linter.unusedVariables false

theorem refat_chg {w w' : World} {F G : Nat → Prop} {p : Nat} {good : List Sec} {log : List (Nat × Sec)} {fuse : Int} {ag : Option Addr} {cg : Nat} {gs : List Sl} {al : Option Addr} {cl : Nat} {ls : List On} (r : RefAt w F p good log fuse ag cg gs al cl ls) (hc : Chg G w w') (ha : ∀ k, F k → ¬ G k) : RefAt w' F p good log fuse ag cg gs al cl ls :=
  ⟨blk_chg hc r.blk (ha _ r.own), r.own, own_chg hc r.gown (fun g hg => ha g (r.gfoot g hg)), r.gfoot, own_chg hc r.lown (fun g hg => ha g (r.lfoot g hg)), r.lfoot, r.glen, r.llen, fun i s l h1 h2 => sec_chg (r.gsec i s l h1 h2) hc ha, fun i x y h1 h2 => ⟨(r.lsec i x y h1 h2).1, sec_chg (r.lsec i x y h1 h2).2 hc ha⟩⟩
theorem refat_mono {w : World} {F G : Nat → Prop} {p : Nat} {good : List Sec} {log : List (Nat × Sec)} {fuse : Int} {ag : Option Addr} {cg : Nat} {gs : List Sl} {al : Option Addr} {cl : Nat} {ls : List On} (r : RefAt w F p good log fuse ag cg gs al cl ls) (hf : ∀ k, F k → G k) : RefAt w G p good log fuse ag cg gs al cl ls :=
  ⟨r.blk, hf _ r.own, r.gown, fun k hk => hf k (r.gfoot k hk), r.lown, fun k hk => hf k (r.lfoot k hk), r.glen, r.llen, fun i s l h1 h2 => sec_mono (r.gsec i s l h1 h2) hf, fun i x y h1 h2 => ⟨(r.lsec i x y h1 h2).1, sec_mono (r.lsec i x y h1 h2).2 hf⟩⟩
theorem ne_sl_int : (39 : TypeId) ≠ 3 := by decide
/-- A cached sector is settled. -/
theorem crash_settled {w wo wc wx : World} {F : Nat → Prop} {p : Nat} {g : List Sec} {log : List (Nat × Sec)} {fuse : Int} {gg cg : Nat} {gs : List Sl} {al : Option Addr} {cl : Nat} {ls : List On} {q nb nc : Nat} {l : Sec} {os : List Nat} {av : Option Addr} {cv : Nat}
    (r : RefAt wc (More F w wo) p g log fuse (some ⟨gg, 0, none⟩) cg gs al cl ls) (hq : q < g.length) (hC : Chg F w wo) (hO : Owns encN 1 3 wo w.heap.size (.slice av os.length cv) os) (hb1 : Below wo.heap.size wo wc) (hb2 : Below wc.heap.size wc wx)
    (hl : OwnB wx 0 (.slice (some ⟨nb, 0, none⟩) 32 nc) l) (h32 : l.length = 32) (hnb : wc.heap.size ≤ nb) :
    RefD (wx.drew.setCell ⟨gg, q, none⟩ (.slice (some ⟨nb, 0, none⟩) 32 nc)) (More F w (wx.drew.setCell ⟨gg, q, none⟩ (.slice (some ⟨nb, 0, none⟩) 32 nc))) p (g.set q l) log fuse ∧
      Owns encN 1 3 (wx.drew.setCell ⟨gg, q, none⟩ (.slice (some ⟨nb, 0, none⟩) 32 nc)) w.heap.size (.slice av os.length cv) os ∧ Chg F w (wx.drew.setCell ⟨gg, q, none⟩ (.slice (some ⟨nb, 0, none⟩) 32 nc)) := by
  have s1 := hC.size
  have s2 := hb1.size
  have s3 := hb2.size
  have szs : (wx.drew.setCell ⟨gg, q, none⟩ (.slice (some ⟨nb, 0, none⟩) 32 nc)).heap.size = wx.heap.size := setCell_size _ _ _
  have rx := refat_mono (refat_chg r (new_chg hb2 (fun _ => False)) (fun _ _ => id)) (G := More F w wx) (fun k hk => more_up (by omega) hk)
  have rd : RefAt wx.drew (More F w wx) p g log fuse (some ⟨gg, 0, none⟩) cg gs al cl ls := ⟨rx.blk, rx.own, rx.gown, rx.gfoot, rx.lown, rx.lfoot, rx.glen, rx.llen, rx.gsec, rx.lsec⟩
  have hlt : nb < wx.heap.size := (World.ownsRow.lt hl _ rfl).2
  obtain ⟨h1, h2⟩ := ref_setgood rd (s := ⟨nb, 32, nc⟩) (l := l) ⟨h32.symm, hl, more_new (show w.heap.size ≤ nb by omega) hlt⟩ q hq
  refine ⟨ref_mono h1 fun k hk => by
    rcases hk with hk | hk
    · exact .inl hk
    · exact .inr ⟨hk.1, by rw [szs]; exact hk.2⟩, ?_, ?_⟩
  · have o1 := own_chg (new_chg hb2 (fun _ => False)) (own_chg (new_chg hb1 (fun _ => False)) hO (fun _ _ => id)) (fun _ _ => id)
    obtain ⟨cur, hcur⟩ := own_type rd.gown (g := gg) rfl
    exact own_typed (w := wx.drew) o1 (set_chg _ gg q _) (typed_one hcur ne_sl_int)
  · have c2 : Chg F w wx := chg_trans (chg_trans hC (new_chg hb1 F) fun _ h => .inl h) (new_chg hb2 F) fun _ h => .inl h
    refine chg_set (chg_drew c2) ?_ q _
    rcases r.gfoot gg rfl with hk | hk
    · exact .inl hk
    · exact .inr hk.1

theorem logOrd_lt {log : List (Nat × Sec)} {n : Nat} (h : ∀ x ∈ log, x.1 < n) : ∀ i ∈ logOrd log, i < n := fun i hi => by
  obtain ⟨x, hx, rfl⟩ := (mem_logOrd _ _).1 hi
  exact h x hx
theorem logNow_32 {good : List Sec} {log : List (Nat × Sec)} (hg : ∀ l ∈ good, l.length = 32) (hl : ∀ x ∈ log, x.2.length = 32) : ∀ l ∈ logNow good log, l.length = 32 := by
  induction log using snocRec with
  | nil => exact hg
  | snoc l x ih =>
    rw [logNow_snoc]
    intro y hy
    rcases List.mem_or_eq_of_mem_set hy with hy | rfl
    · exact ih (fun x hx => hl x (List.mem_append_left _ hx)) y hy
    · exact hl x (by simp)

theorem bit_keep (keep : Int) (n : Nat) : (Go.bits .and .u64 (IntKind.u64.wrap keep / 2 ^ n) 1 == 1) = bitOf keep n := by
  have e : IntKind.u64.wrap keep / 2 ^ n = (((keep % 18446744073709551616).toNat / 2 ^ n : Nat) : Int) := by
    rw [Int.natCast_ediv, Int.natCast_pow]
    have : (((keep % 18446744073709551616).toNat : Nat) : Int) = IntKind.u64.wrap keep := by rw [IntKind.wrap_u64]; omega
    rw [this]; rfl
  have hlt : (keep % 18446744073709551616).toNat / 2 ^ n < 18446744073709551616 := Nat.lt_of_le_of_lt (Nat.div_le_self _ _) (by omega)
  rw [e, show (1 : Int) = ((1 : Nat) : Int) from rfl, u64_and_nat _ _ hlt (by decide), nat_mask1, bitOf, Nat.testBit_eq_decide_div_mod_eq, Bool.eq_iff_iff, beq_iff_eq, decide_eq_true_iff]
  omega
def kept (keep : Int) (n : Nat) : Int := cond (decide ((n : Int) < 62) && bitOf keep n) 32 0
theorem bit_near {keep : Int} {n : Nat} (h1 : (n : Int) < 62) : Value.bool (Go.bits .and .u64 (IntKind.u64.wrap keep / 2 ^ n) 1 == 1) = .bool (decide ((n : Int) < 62) && bitOf keep n) := by
  rw [bit_keep, decide_eq_true h1]; rfl
theorem bit_far {keep : Int} {n : Nat} (h1 : 62 ≤ (n : Int)) : Value.bool false = .bool (decide ((n : Int) < 62) && bitOf keep n) := by
  rw [decide_eq_false (by omega)]; rfl
theorem kept_le (keep : Int) (n : Nat) : -9223372036854775808 ≤ kept keep n ∧ kept keep n ≤ 9223372036854775807 := by
  unfold kept
  cases (decide ((n : Int) < 62) && bitOf keep n)
  · exact ⟨by decide, by decide⟩
  · exact ⟨by decide, by decide⟩
theorem many_torn {keep torn cut : Int} {n : Nat} (h : ((n : Int) == torn) = true) : (if cut < 32 then cut.toNat else 32) = many keep torn cut n := by
  unfold many; rw [if_pos (beq_iff_eq.1 h)]
theorem many_kept {keep torn cut : Int} {n : Nat} (h : ((n : Int) == torn) = false) : (if kept keep n < 32 then (kept keep n).toNat else 32) = many keep torn cut n := by
  unfold many kept
  rw [if_neg (beq_eq_false_iff_ne.1 h)]
  by_cases h1 : (n : Int) < 62
  · have h2 : n < 62 := by omega
    cases h3 : bitOf keep n <;> simp [h1, h2]
  · have h2 : ¬ n < 62 := by omega
    simp [h1, h2]

def phiCr (W : World) (l : Sec) : Nat → List Value → World → Prop
  | 0, [], w => w = W.drew
  | 1, [v], w => v = .slice (some ⟨W.heap.size, 0, none⟩) 0 0 ∧ w = W.drew.alloc (.cells #[] 5)
  | 2, [_, x], w => ∃ s : Sl, x = s.val ∧ NewSec W w s l
  | 3, [_, _, y], w => ∃ s : Sl, y = s.val ∧ NewSec W w s l
  | _, _, _ => False
theorem crCell {W w : World} {l : Sec} {j : Nat} {vs : List Value} (hj : j ≤ 1) (h : phiCr W l j vs w) {a : Addr} {v : Value} (hc : W.cell? a = some v) : w.cell? a = some v := by
  match j, vs, h with
  | 0, [], h => subst h; exact hc
  | 1, [v], h => obtain ⟨_, rfl⟩ := h; exact cell_alloc hc
theorem mix_zero (old new : Sec) : mix 0 old new = old := by simp [mix]
theorem mix_succ {i : Nat} {old new : Sec} (h1 : i < old.length) (h2 : i < new.length) : mix (i + 1) old new = (mix i old new).set i new[i] := by
  have hl : (new.take i).length = i := by rw [List.length_take]; omega
  have hd : old.drop i = old[i] :: old.drop (i + 1) := List.drop_eq_getElem_cons h1
  have hs : (new.take i ++ old.drop i).set i new[i] = new.take i ++ (old.drop i).set (i - (new.take i).length) new[i] := by
    rw [List.set_append, if_neg (by omega)]
  unfold mix
  rw [hs, hl, Nat.sub_self, hd, List.take_succ_eq_append_getElem h2, List.append_assoc]
  rfl

set_option maxRecDepth 100000 in
set_option maxHeartbeats 8000000 in
theorem rcrash_any {F : Nat → Prop} {p : Nat} {good : List Sec} {log : List (Nat × Sec)} {fuse : Int} {w : World} (h : RefD w F p good log fuse) (hF : ∀ k, F k → k < w.heap.size) (hg : good.length ≤ 1024) (hk : log.length ≤ 1000000)
    (h32 : ∀ l ∈ good, l.length = 32) (hl32 : ∀ x ∈ log, x.2.length = 32) (hlt : ∀ x ∈ log, x.1 < good.length) (keep torn cut : Int)
    (hkp : -9223372036854775808 ≤ keep ∧ keep ≤ 9223372036854775807) (htn : -9223372036854775808 ≤ torn ∧ torn ≤ 9223372036854775807) (hct : -9223372036854775808 ≤ cut ∧ cut ≤ 9223372036854775807) :
    Calls Try.prog 23 #[.pointer (some ⟨p, 0, none⟩), .int .i64 keep, .int .i64 torn, .int .i64 cut] w fun e w' => e = .returned (.tuple #[]) ∧ RefD w' (More F w w') p (settle keep torn cut (logNow good log) (logOrd log) (logOrd log).length good) [] (-1) ∧ Chg F w w' := by
  have HOrd := Lib.hid (rorder_any h hF hk)
  have HD := Lib.hid h
  have hol : (logOrd log).length ≤ 1000000 := Nat.le_trans (logOrd_len log) hk
  have HLt := Lib.hid (logOrd_lt hlt)
  have HNd := Lib.hid (logOrd_nodup log)
  have H32 := Lib.hid h32
  have HL32 := Lib.hid hl32
  have HNow32 := Lib.hid (logNow_32 h32 hl32)
  have HSame := Lib.hid (fun g' (hg' : good.length = g'.length) i hi => logNow_same good g' hg' log i hi)
  have HF := Lib.hid hF
  have HK := Lib.hid hk
  clear h hlt h32 hl32 hF hk
  generalize hO : logOrd log = os at *
  generalize hN : logNow good log = now at *
  have HO := Lib.hid hO
  have HN := Lib.hid hN
  clear hO hN
  go_enter Try.func23, Try.ntmps23
  go_wp2_with fail
  refine HOrd.out.mono ?_
  rintro e w1 ⟨v, rfl, hov, hb1⟩
  obtain ⟨av, cv, rfl, hcv, hcm, hnv, hrv⟩ := owns_row encN_len hov
  have HB1 := Lib.hid hb1
  have HOv := Lib.hid hov
  have HD1 := Lib.hid (ref_chg HD.out (new_chg hb1 (fun _ => False)) (fun _ _ => id))
  clear hov hb1 hrv HOrd
  go_wp2_with fail
  go_loopw [9] (fun i wr => ∃ n : Nat, n ≤ os.length ∧ i = .int .i64 n ∧ RefD wr (More F w wr) p (settle keep torn cut now os n good) log fuse ∧ Owns encN 1 3 wr w.heap.size (.slice av os.length cv) os ∧ Chg F w wr) (fun i _ => os.length - (intOf i).toNat)
  case atStart => exact ⟨0, Nat.zero_le _, rfl, ref_mono HD1.out (fun _ => more_old), HOv.out, new_chg HB1.out F⟩
  case round =>
    obtain ⟨n, hn, rfl, hR, hO, hC⟩ := hrel
    obtain ⟨wo, rfl⟩ : ∃ x, x = wr := ⟨wr, rfl⟩
    have hgl := settle_length keep torn cut now os n good
    by_cases hlt : n < os.length
    · obtain ⟨go, rfl, _, _, hro⟩ := own_at encN_len hO (by omega)
      have o0 := row_cell hro hlt rfl (i := 0) (by omega)
      simp only [encN, Nat.zero_add, Nat.add_zero, Nat.mul_one, List.getElem?_cons_zero] at o0
      have hon := HLt.out os[n] (List.getElem_mem hlt)
      have hmem : os[n] ∈ os := List.getElem_mem hlt
      have hgd : os.getD n 0 = os[n] := getD_at hlt
      have hset : settle keep torn cut now os (n + 1) good = (settle keep torn cut now os n good).set os[n] (mix (many keep torn cut n) ((settle keep torn cut now os n good).getD os[n] []) (now.getD os[n] [])) := by
        simp only [settle]; rw [hgd]
      have hs32 := settle_32 keep torn cut now os good HNow32.out H32.out (by rw [← HN.out, logNow_length]) HLt.out n hn
      have hread := HSame.out (settle keep torn cut now os n good) hgl.symm os[n] hmem
      generalize os[n] = q at *
      generalize settle keep torn cut now os n good = g at *
      have hn32 := logNow_32 hs32 HL32.out
      have hqr : (logNow g log).getD q [] = now.getD q [] := by rw [List.getD, List.getD, hread]
      have HRd := Lib.hid (rread_ok hR (by omega) HK.out hn32 (q : Int) ⟨by omega, by rw [hgl]; omega⟩)
      simp only [Int.toNat_natCast] at HRd
      rw [hqr] at HRd
      have HR := Lib.hid hR
      have HOr := Lib.hid hO
      have HCr := Lib.hid hC
      have HSet := Lib.hid hset
      have HS32 := Lib.hid hs32
      clear hR hO hC hset hs32 hread hn32 hqr hgd hmem hro
      go_wp2_with fail
      refine HRd.out.mono ?_
      rintro e w2 ⟨b, rfl, hbo, hb2⟩
      have hbl : (now.getD q []).length = 32 := HNow32.out _ (getD_mem (by rw [← HN.out, logNow_length]; exact hon))
      obtain ⟨sb, rfl, hsb⟩ := own_sl (owns_le hbo (Nat.zero_le _)) (by rw [hbl]; decide)
      obtain ⟨bb, bn, bc⟩ := sb
      simp only at hsb
      rw [hbl] at hsb
      subst hsb
      simp only [Sl.val] at hbo ⊢
      have HBo := Lib.hid hbo
      have HB2 := Lib.hid hb2
      have HBl := Lib.hid hbl
      clear hbo hb2 hbl HRd
      go_upto_region 6 with fail
      go_cut [42] (fun m wx => m = .bool (decide ((n : Int) < 62) && bitOf keep n) ∧ wx = w2)
      case first =>
        go_wp2_with fail
        all_goals go_meet
        all_goals
          case rel =>
            first
            | exact ⟨bit_near (by assumption), rfl⟩
            | exact ⟨bit_far (by assumption), rfl⟩
      case rest =>
        obtain ⟨rfl, rfl⟩ := hcut
        have hk12 : ∀ b : Bool, (decide ((n : Int) < 62) && bitOf keep n) = b → Value.int .i64 (cond b 32 0) = .int .i64 (kept keep n) := fun b hb => by rw [← hb]; rfl
        generalize hB : (decide ((n : Int) < 62) && bitOf keep n) = B
        go_upto_if 42 with fail
        go_cut [12] (fun m wx => m = .int .i64 (kept keep n) ∧ wx = wc)
        case first =>
          have hk := hk12 B hB
          clear hk12 hB
          cases B
          all_goals
            have HK12 := Lib.hid hk
            clear hk
            go_wp2_with fail
            go_meet
            case rel => exact ⟨HK12.out, rfl⟩
        case rest =>
        clear hk12 hB
        obtain ⟨rfl, rfl⟩ := hcut
        go_upto_if 45 with fail
        go_cut [12] (fun m wx => ∃ M : Int, m = .int .i64 M ∧ (if M < 32 then M.toNat else 32) = many keep torn cut n ∧ (-9223372036854775808 ≤ M ∧ M ≤ 9223372036854775807) ∧ wx = wc)
        case first =>
          go_wp2_with fail
          all_goals go_meet
          all_goals
            case rel =>
              first
              | exact ⟨_, rfl, many_torn (by assumption), hct, rfl⟩
              | exact ⟨_, rfl, many_kept (by assumption), kept_le keep n, rfl⟩
        case rest =>
          obtain ⟨M, rfl, hM, hMb, rfl⟩ := hcut
          have hRc := ref_chg HR.out (new_chg HB2.out (fun _ => False)) (fun _ _ => id)
          obtain ⟨ag, cg, gs, al, cl, ls, r⟩ := hRc
          have hgs : q < gs.length := by rw [r.glen, hgl]; exact hon
          obtain ⟨gg, rfl, _, _, hrg⟩ := own_at encSl_len r.gown (by omega)
          have k0 := Arr.blk_cell r.blk 0
          simp only [List.getElem?_cons_zero] at k0
          rw [r.glen, hgl] at k0
          have cq := row_cell hrg hgs rfl (i := 0) (by omega)
          have hqg : q < g.length := by rw [hgl]; exact hon
          have hsq := r.gsec q gs[q] g[q] (List.getElem?_eq_getElem hgs) (List.getElem?_eq_getElem hqg)
          have hold : g.getD q [] = g[q] := getD_at hqg
          have ho32 : (g[q]).length = 32 := HS32.out _ (List.getElem_mem hqg)
          have hfq := World.ownsRow.frozenAt r.gown q
          generalize g[q] = old at *
          generalize gs[q] = s0 at *
          obtain ⟨ob, on, oc⟩ := s0
          obtain ⟨hsn, hso, hsF⟩ := hsq
          simp only at hsn hsF
          rw [ho32] at hsn
          subst hsn
          simp only [encSl, Sl.val, Nat.zero_add, Nat.add_zero, Nat.mul_one, List.getElem?_cons_zero] at cq
          have HRc := Lib.hid r
          have hrow := own_row' hso
          have HA := Lib.hid (fun (w : World) (hb : Below wc.heap.size wc w) => row_keep encB_len hrow hb)
          have HL : Hid (old.length = 32 ∧ ((some (⟨ob, 0, none⟩ : Addr)) = none → 32 = 0 ∧ oc = 0)) := Lib.hid ⟨ho32, fun h => by cases h⟩
          have HCs := Lib.hid (And.intro k0 (And.intro (cell_keep HB2.out o0) cq))
          have HLn := Lib.hid hlt
          have HLq := Lib.hid hon
          have HOld := Lib.hid hold
          have HFq := Lib.hid hfq
          clear r hrg hso hsF hrow hfq hold
          go_wp2_with fail
          refine Chn.wp_region_chain (fun idx => match idx with | 1 => some (.pointer (some ⟨p, 0, none⟩)) | 2 => some (.pointer (some ⟨p, 0, none⟩)) | 3 => some (.pointer (some ⟨p, 0, none⟩)) | 4 => some (.slice (some ⟨gg, 0, none⟩) good.length cg) | 5 => some (.slice (some ⟨go, 0, none⟩) os.length cv) | 6 => some (.int .i64 n) | 7 => some (.pointer (some ⟨go, n, none⟩)) | 8 => some (.int .i64 q) | 9 => some (.pointer (some ⟨gg, q, none⟩)) | 10 => some (.slice (some ⟨ob, 0, none⟩) 32 oc) | _ => none) [0, 11, 12] (phiCr wc old) (by kernel_rfl) (by kernel_rfl) (by kernel_rfl) (by kernel_rfl) (by kernel_rfl) (by decide) (by kernel_rfl) (rfl) ?_ ?_
          · refine ⟨?_, ?_, ?_, ?_, ?_, ?_, ?_, ?_, ?_, ?_, ?_, ?_, ?_, trivial⟩
            · refine ⟨0, rfl, ?_⟩
              intro a ww c hΦ
              have h : (phiCr wc old) 0 [] ww := hΦ
              clear hΦ
              refine ⟨Rel.wanted_free (by kernel_rfl) _, ?_⟩
              simp only [phiCr] at h
              subst h
              exact Chn.wp_bs0 _ rfl (run_bs_nil _) ⟨_, rfl, rfl, rfl⟩
            · intro a ww jj vs c hj0 hΦ
              have hj : jj ≤ 1 := Nat.le_trans hj0 (of_decide_eq_true (by kernel_rfl))
              refine .inl ⟨Rel.wanted_free (by kernel_rfl) _, ?_⟩
              exact Rel.wp_mv _ rfl ⟨congrArg (a.put _) (c.old 0 (v := .pointer (some ⟨p, 0, none⟩)) (by kernel_rfl) (by kernel_rfl)), rfl⟩
            · intro a ww jj vs c hj0 hΦ
              have hj : jj ≤ 1 := Nat.le_trans hj0 (of_decide_eq_true (by kernel_rfl))
              refine .inl ⟨Rel.wanted_free (by kernel_rfl) _, ?_⟩
              exact Chn.wp_nc _ rfl (c.get 1 48 (by kernel_rfl) rfl) ⟨rfl, rfl⟩
            · intro a ww jj vs c hj0 hΦ
              have hj : jj ≤ 1 := Nat.le_trans hj0 (of_decide_eq_true (by kernel_rfl))
              refine .inl ⟨Rel.wanted_free (by kernel_rfl) _, ?_⟩
              exact Chn.wp_fa _ _ _ rfl (c.get 2 49 (by kernel_rfl) rfl) (by simp [go_sem]) ⟨rfl, rfl⟩
            · intro a ww jj vs c hj0 hΦ
              have hj : jj ≤ 1 := Nat.le_trans hj0 (of_decide_eq_true (by kernel_rfl))
              refine .inl ⟨Rel.wanted_free (by kernel_rfl) _, ?_⟩
              exact Rel.wp_ld _ _ rfl (c.get 3 50 (by kernel_rfl) rfl) (run_ld_sls (crCell hj hΦ HCs.out.1)) ⟨rfl, rfl⟩
            · intro a ww jj vs c hj0 hΦ
              have hj : jj ≤ 1 := Nat.le_trans hj0 (of_decide_eq_true (by kernel_rfl))
              refine .inl ⟨Rel.wanted_free (by kernel_rfl) _, ?_⟩
              exact Rel.wp_mv _ rfl ⟨congrArg (a.put _) (c.old 8 (v := .slice (some ⟨go, 0, none⟩) os.length cv) (by kernel_rfl) (by kernel_rfl)), rfl⟩
            · intro a ww jj vs c hj0 hΦ
              have hj : jj ≤ 1 := Nat.le_trans hj0 (of_decide_eq_true (by kernel_rfl))
              refine .inl ⟨Rel.wanted_free (by kernel_rfl) _, ?_⟩
              exact Rel.wp_mv _ rfl ⟨congrArg (a.put _) (c.old 9 (v := .int .i64 n) (by kernel_rfl) (by kernel_rfl)), rfl⟩
            · intro a ww jj vs c hj0 hΦ
              have hj : jj ≤ 1 := Nat.le_trans hj0 (of_decide_eq_true (by kernel_rfl))
              refine .inl ⟨Rel.wanted_free (by kernel_rfl) _, ?_⟩
              exact Rel.wp_ia _ _ _ rfl (c.get 5 52 (by kernel_rfl) rfl) (c.get 6 53 (by kernel_rfl) rfl) (run_ia_ints go n os.length cv HLn.out _) ⟨rfl, rfl⟩
            · intro a ww jj vs c hj0 hΦ
              have hj : jj ≤ 1 := Nat.le_trans hj0 (of_decide_eq_true (by kernel_rfl))
              refine .inl ⟨Rel.wanted_free (by kernel_rfl) _, ?_⟩
              exact Rel.wp_ld _ _ rfl (c.get 7 54 (by kernel_rfl) rfl) (run_ld_i (crCell hj hΦ HCs.out.2.1)) ⟨rfl, rfl⟩
            · intro a ww jj vs c hj0 hΦ
              have hj : jj ≤ 1 := Nat.le_trans hj0 (of_decide_eq_true (by kernel_rfl))
              refine .inl ⟨Rel.wanted_free (by kernel_rfl) _, ?_⟩
              exact Rel.wp_ia _ _ _ rfl (c.get 4 51 (by kernel_rfl) rfl) (c.get 8 55 (by kernel_rfl) rfl) (run_ia_sls gg q good.length cg HLq.out _) ⟨rfl, rfl⟩
            · intro a ww jj vs c hj0 hΦ
              have hj : jj ≤ 1 := Nat.le_trans hj0 (of_decide_eq_true (by kernel_rfl))
              refine .inl ⟨Rel.wanted_free (by kernel_rfl) _, ?_⟩
              exact Rel.wp_ld _ _ rfl (c.get 9 56 (by kernel_rfl) rfl) (run_ld_sl (crCell hj hΦ HCs.out.2.2)) ⟨rfl, rfl⟩
            · refine ⟨1, rfl, ?_⟩
              intro a ww c hΦ
              have h : (phiCr wc old) 1 [Rel.slot a 47] ww := hΦ
              clear hΦ
              refine ⟨Rel.wanted_free (by kernel_rfl) _, ?_⟩
              obtain ⟨hv, rfl⟩ := h
              obtain ⟨b, w8, hr, hb⟩ := wr_bytes (ty := 39) HA.out HL.out wc
              exact Chn.wp_ap _ _ _ rfl hv (c.get 10 57 (by kernel_rfl) rfl) hr ⟨_, rfl, hb⟩
            · refine ⟨2, rfl, ?_⟩
              intro a ww c hΦ
              have h : (phiCr wc old) 2 [Rel.slot a 47, Rel.slot a 58] ww := hΦ
              clear hΦ
              refine ⟨Rel.wanted_free (by kernel_rfl) _, ?_⟩
              obtain ⟨s, hs, hr⟩ := h
              exact Rel.wp_as _ rfl ⟨_, rfl, s, hs, hr⟩
          intro a w9 hbase hroom hdef hΦ hV
          have h : (phiCr wc old) 3 [Rel.slot a 47, Rel.slot a 58, Rel.slot a 13] w9 := hΦ
          rw [Chn.act_puts [47, 48, 49, 50, 51, 52, 53, 54, 55, 56, 57, 58, 13] hbase hroom hdef (by kernel_rfl)]
          clear hbase hroom hdef hΦ hV
          simp only [List.foldl_cons, List.foldl_nil]
          generalize Rel.slot a 47 = u47 at *
          generalize Rel.slot a 48 = u48 at *
          generalize Rel.slot a 49 = u49 at *
          generalize Rel.slot a 50 = u50 at *
          generalize Rel.slot a 51 = u51 at *
          generalize Rel.slot a 52 = u52 at *
          generalize Rel.slot a 53 = u53 at *
          generalize Rel.slot a 54 = u54 at *
          generalize Rel.slot a 55 = u55 at *
          generalize Rel.slot a 56 = u56 at *
          generalize Rel.slot a 57 = u57 at *
          generalize Rel.slot a 58 = u58 at *
          generalize Rel.slot a 13 = u13 at *
          obtain ⟨⟨nb, nn, nc⟩, hs, hn1, hn2, hn3, hn4⟩ := h
          simp only at hn1 hn3
          rw [ho32] at hn1
          subst hn1
          subst hs
          simp only [Sl.val] at hn2 ⊢
          obtain ⟨mn, hmn⟩ : ∃ m : Nat, m = many keep torn cut n := ⟨_, rfl⟩
          rw [← hmn] at hM
          have HMn := Lib.hid hmn
          have hmn32 : mn ≤ 32 := by rw [hmn]; exact many_le _ _ _ _
          have HN2 := Lib.hid hn2
          have HN4 := Lib.hid hn4
          have hbo := HBo.out
          have hblen := HBl.out
          generalize hnew : now.getD q [] = new at *
          have HNew := Lib.hid hnew
          have hrb := own_row' hbo
          have HRb := Lib.hid hrb
          clear hn2 hn4 hmn hnew hbo hrb
          go_wp2_with fail
          go_loopw [14] (fun i wx => ∃ i' : Nat, i' ≤ mn ∧ i = .int .i64 i' ∧ OwnB wx 0 (.slice (some ⟨nb, 0, none⟩) 32 nc) (mix i' old new) ∧ Below wc.heap.size wc wx) (fun i _ => mn - (intOf i).toNat)
          case atStart => exact ⟨0, Nat.zero_le _, rfl, by rw [mix_zero]; exact HN2.out, HN4.out⟩
          case round =>
            obtain ⟨i, him, rfl, hOx, hbx⟩ := hrel
            by_cases hil : i < mn
            · have hb1 : (i : Int) < 32 := by omega
              have hb2' : (i : Int) < M := by split at hM <;> omega
              have hin : i < new.length := by omega
              have hx0 := row_cell (row_keep encB_len HRb.out hbx) hin rfl (i := 0) (by omega)
              simp only [encB, Nat.zero_add, Nat.add_zero, Nat.mul_one, List.getElem?_cons_zero] at hx0
              have hml : (mix i old new).length = 32 := mix_length ho32 hblen (by omega)
              have hset := own_set hOx hml (i := i) (by omega) (List.getElem?_eq_getElem (by omega)) new[i]
              obtain ⟨y0, f0, o1, g1⟩ := hset
              rw [← mix_succ (by omega) hin] at o1
              have HO1 := Lib.hid o1
              have HB1x := Lib.hid (hbx.trans (grown_below g1 hbx.size hn3))
              generalize new[i] = yb at *
              generalize (mix i old new)[i] = y1 at *
              clear hOx hbx o1 g1
              go_wp2_with fail
              go_roundw
              case rel => exact ⟨i + 1, by omega, by go_num, HO1.out, HB1x.out⟩
              case measure => simp [intOf]; omega
            · obtain rfl : i = mn := by omega
              have hor : ¬ (i : Int) < 32 ∨ ((i : Int) < 32 ∧ ¬ (i : Int) < M) := by split at hM <;> omega
              have HOx := Lib.hid hOx
              have HBx := Lib.hid hbx
              have HCt := Lib.hid (And.intro (cell_keep hbx HCs.out.1) (And.intro (cell_keep hbx HCs.out.2.1) (And.intro (cell_keep hbx HCs.out.2.2) (show wr.frozen? ⟨gg, q, none⟩ = false from by
                have := HFq.out
                rw [hbx.frozen (p := ⟨gg, q, none⟩) (World.block_lt_of_cell? wc _ HCs.out.2.2)]
                exact this))))
              clear hOx hbx
              rcases hor with hA1 | ⟨hA1, hA2⟩
              all_goals
                go_wp2_with fail
                refine Chn.wp_region_chain (fun idx => match idx with | 0 => some (.pointer (some ⟨p, 0, none⟩)) | 1 => some (.pointer (some ⟨p, 0, none⟩)) | 2 => some (.pointer (some ⟨p, 0, none⟩)) | 3 => some (.slice (some ⟨gg, 0, none⟩) good.length cg) | 4 => some (.slice (some ⟨go, 0, none⟩) os.length cv) | 5 => some (.int .i64 n) | 6 => some (.pointer (some ⟨go, n, none⟩)) | 7 => some (.int .i64 q) | 8 => some (.slice (some ⟨nb, 0, none⟩) 32 nc) | 9 => some (.pointer (some ⟨gg, q, none⟩)) | _ => none) [10] (phiFl wr gg q nb 32 nc) (by kernel_rfl) (by kernel_rfl) (by kernel_rfl) (by kernel_rfl) (by kernel_rfl) (by decide) (by kernel_rfl) (rfl) ?_ ?_
                · refine ⟨?_, ?_, ?_, ?_, ?_, ?_, ?_, ?_, ?_, ?_, ?_, trivial⟩
                  · intro a ww jj vs c hj0 hΦ
                    have hj : jj ≤ 0 := Nat.le_trans hj0 (of_decide_eq_true (by kernel_rfl))
                    refine .inl ⟨Rel.wanted_free (by kernel_rfl) _, ?_⟩
                    exact Rel.wp_mv _ rfl ⟨congrArg (a.put _) (c.old 0 (v := .pointer (some ⟨p, 0, none⟩)) (by kernel_rfl) (by kernel_rfl)), rfl⟩
                  · intro a ww jj vs c hj0 hΦ
                    have hj : jj ≤ 0 := Nat.le_trans hj0 (of_decide_eq_true (by kernel_rfl))
                    refine .inl ⟨Rel.wanted_free (by kernel_rfl) _, ?_⟩
                    exact Chn.wp_nc _ rfl (c.get 0 75 (by kernel_rfl) rfl) ⟨rfl, rfl⟩
                  · intro a ww jj vs c hj0 hΦ
                    have hj : jj ≤ 0 := Nat.le_trans hj0 (of_decide_eq_true (by kernel_rfl))
                    refine .inl ⟨Rel.wanted_free (by kernel_rfl) _, ?_⟩
                    exact Chn.wp_fa _ _ _ rfl (c.get 1 76 (by kernel_rfl) rfl) (by simp [go_sem]) ⟨rfl, rfl⟩
                  · intro a ww jj vs c hj0 hΦ
                    have hj : jj ≤ 0 := Nat.le_trans hj0 (of_decide_eq_true (by kernel_rfl))
                    refine .inl ⟨Rel.wanted_free (by kernel_rfl) _, ?_⟩
                    exact Rel.wp_ld _ _ rfl (c.get 2 77 (by kernel_rfl) rfl) (run_ld_sls (flCell hj hΦ HCt.out.1)) ⟨rfl, rfl⟩
                  · intro a ww jj vs c hj0 hΦ
                    have hj : jj ≤ 0 := Nat.le_trans hj0 (of_decide_eq_true (by kernel_rfl))
                    refine .inl ⟨Rel.wanted_free (by kernel_rfl) _, ?_⟩
                    exact Rel.wp_mv _ rfl ⟨congrArg (a.put _) (c.old 8 (v := .slice (some ⟨go, 0, none⟩) os.length cv) (by kernel_rfl) (by kernel_rfl)), rfl⟩
                  · intro a ww jj vs c hj0 hΦ
                    have hj : jj ≤ 0 := Nat.le_trans hj0 (of_decide_eq_true (by kernel_rfl))
                    refine .inl ⟨Rel.wanted_free (by kernel_rfl) _, ?_⟩
                    exact Rel.wp_mv _ rfl ⟨congrArg (a.put _) (c.old 9 (v := .int .i64 n) (by kernel_rfl) (by kernel_rfl)), rfl⟩
                  · intro a ww jj vs c hj0 hΦ
                    have hj : jj ≤ 0 := Nat.le_trans hj0 (of_decide_eq_true (by kernel_rfl))
                    refine .inl ⟨Rel.wanted_free (by kernel_rfl) _, ?_⟩
                    exact Rel.wp_ia _ _ _ rfl (c.get 4 79 (by kernel_rfl) rfl) (c.get 5 80 (by kernel_rfl) rfl) (run_ia_ints go n os.length cv HLn.out _) ⟨rfl, rfl⟩
                  · intro a ww jj vs c hj0 hΦ
                    have hj : jj ≤ 0 := Nat.le_trans hj0 (of_decide_eq_true (by kernel_rfl))
                    refine .inl ⟨Rel.wanted_free (by kernel_rfl) _, ?_⟩
                    exact Rel.wp_ld _ _ rfl (c.get 6 81 (by kernel_rfl) rfl) (run_ld_i (flCell hj hΦ HCt.out.2.1)) ⟨rfl, rfl⟩
                  · intro a ww jj vs c hj0 hΦ
                    have hj : jj ≤ 0 := Nat.le_trans hj0 (of_decide_eq_true (by kernel_rfl))
                    refine .inl ⟨Rel.wanted_free (by kernel_rfl) _, ?_⟩
                    exact Rel.wp_mv _ rfl ⟨congrArg (a.put _) (c.old 13 (v := .slice (some ⟨nb, 0, none⟩) 32 nc) (by kernel_rfl) (by kernel_rfl)), rfl⟩
                  · intro a ww jj vs c hj0 hΦ
                    have hj : jj ≤ 0 := Nat.le_trans hj0 (of_decide_eq_true (by kernel_rfl))
                    refine .inl ⟨Rel.wanted_free (by kernel_rfl) _, ?_⟩
                    exact Rel.wp_ia _ _ _ rfl (c.get 3 78 (by kernel_rfl) rfl) (c.get 7 82 (by kernel_rfl) rfl) (run_ia_sls gg q good.length cg HLq.out _) ⟨rfl, rfl⟩
                  · refine ⟨0, rfl, ?_⟩
                    intro a ww c hΦ
                    have h : (phiFl wr gg q nb 32 nc) 0 [] ww := hΦ
                    clear hΦ
                    refine ⟨Rel.wanted_free (by kernel_rfl) _, ?_⟩
                    simp only [phiFl] at h
                    subst h
                    exact Chn.wp_st _ _ _ rfl (c.get 9 84 (by kernel_rfl) rfl) (c.get 8 83 (by kernel_rfl) rfl) (run_st_sl (w := wr.drew) HCt.out.2.2.1 HCt.out.2.2.2) ⟨undef, rfl, rfl⟩
                intro a w9 hbase hroom hdef hΦ hV
                have h : (phiFl wr gg q nb 32 nc) 1 [undef] w9 := hΦ
                rw [Chn.act_puts [75, 76, 77, 78, 79, 80, 81, 82, 83, 84] hbase hroom hdef (by kernel_rfl)]
                clear hbase hroom hdef hΦ hV
                simp only [List.foldl_cons, List.foldl_nil]
                generalize Rel.slot a 75 = u75 at *
                generalize Rel.slot a 76 = u76 at *
                generalize Rel.slot a 77 = u77 at *
                generalize Rel.slot a 78 = u78 at *
                generalize Rel.slot a 79 = u79 at *
                generalize Rel.slot a 80 = u80 at *
                generalize Rel.slot a 81 = u81 at *
                generalize Rel.slot a 82 = u82 at *
                generalize Rel.slot a 83 = u83 at *
                generalize Rel.slot a 84 = u84 at *
                simp only [phiFl] at h
                subst h
                have hst := crash_settled HRc.out hqg HCr.out HOr.out HB2.out HBx.out HOx.out (mix_length ho32 hblen hmn32) hn3
                have hset2 := HSet.out
                rw [HOld.out, ← HMn.out] at hset2
                rw [← hset2] at hst
                have HSt := Lib.hid hst
                clear hst hset2
                go_wp2_with fail
                go_roundw
                case rel => exact ⟨n + 1, by omega, by go_num, HSt.out.1, HSt.out.2.1, HSt.out.2.2⟩
                case measure => simp [intOf]; omega
    · obtain rfl : n = os.length := by omega
      obtain ⟨h1, h2, ⟨u, h3⟩, h4⟩ := ref_nolog hR
      obtain ⟨h5, h6⟩ := ref_fuse h1 (-1)
      have c2 : ∃ u2, (wo.setCell ⟨p, 1, none⟩ (.slice none 0 0)).cell? ⟨p, 2, none⟩ = some u2 := by
        obtain ⟨ag, cg, gs, al, cl, ls, r⟩ := h1; exact ⟨_, Arr.blk_cell r.blk 2⟩
      have f2 : (wo.setCell ⟨p, 1, none⟩ (.slice none 0 0)).frozen? ⟨p, 2, none⟩ = false := by
        obtain ⟨ag, cg, gs, al, cl, ls, r⟩ := h1; exact Arr.blk_frozen r.blk 2
      obtain ⟨u2, c2⟩ := c2
      have HR5 := Lib.hid h5
      have HC5 : Hid (Chg F w ((wo.setCell ⟨p, 1, none⟩ (.slice none 0 0)).setCell ⟨p, 2, none⟩ (.int .i64 (-1)))) := Lib.hid (chg_trans (chg_trans hC h2 fun x hx => hx.imp id fun h => h.1) h6 fun x hx => hx.imp id fun h => h.1)
      clear h1 h2 h5 h6 hR hO hC
      go_wp2_with fail
      go_end0
      refine ⟨rfl, ref_mono HR5.out fun x hx => ?_, HC5.out⟩
      rcases hx with hx | hx
      · exact .inl hx
      · exact .inr ⟨hx.1, by rw [setCell_size, setCell_size]; exact hx.2⟩

end Go.Proofs.Ytpbegchaneppfaa.Dsk
