/- Contracts of the document's answer for layer 4: how far a zone's time is ahead. -/
import Derived.Test.YtcgmefojokndhaaLcRefB
import Derived.Test.YtcgmefojokndhaaLcAt
import Derived.Test.YtcgmefojokndhaaBsStRef
namespace Go.Proofs.Ytcgmefojokndhaa
open Go.ChangeShapes Go.WideShapes Go.ChangeAt Go.RowKit
open Civ Zn Lc
/-- the greatest turn of those that have come, not above the second -/
def rbF (f : Int → Int) (t : Int) (l : List Int) : Int := l.foldl (fun acc y => if f y ≤ t ∧ acc < f y then f y else acc) (-1152921504606846976)
theorem rbF_snoc (f : Int → Int) (t : Int) (l : List Int) (y : Int) : rbF f t (l ++ [y]) = if f y ≤ t ∧ rbF f t l < f y then f y else rbF f t l := by
  unfold rbF
  rw [List.foldl_append]
  rfl
theorem rbF_lst {f : Int → Int} (T : Turn f) {t y : Int} (h : Lc.Of t y) (h3 : 3 ≤ y) : rbF f t (yrs (y - 2) 5) = lst f t y := by
  have a0 := T.behind h h3; have a4 := T.ahead h
  have s0 := (T.step (y - 2) (by omega)).1
  have s1 := (T.step (y - 1) (by omega)).1
  have s2 := (T.step y (by omega)).1
  have s3 := (T.step (y + 1) (by omega)).1
  have b := T.lo (y - 2) (by omega)
  have c := dby_mono 1 (y - 2) (by omega) (by omega)
  have d : dby 1 = 0 := dby_1
  have e : first (y - 2) 1 = dby (y - 2) - 719162 := by unfold first; rw [cum_1]; omega
  rw [show y - 2 + 1 = y - 1 by omega] at s0
  rw [show y - 1 + 1 = y by omega] at s1
  rw [show y + 1 + 1 = y + 2 by omega] at s3
  simp only [yrs, List.nil_append, rbF_snoc]
  rw [show y - 2 + ((4 : Nat) : Int) = y + 2 by omega, show y - 2 + ((3 : Nat) : Int) = y + 1 by omega, show y - 2 + ((2 : Nat) : Int) = y by omega, show y - 2 + ((1 : Nat) : Int) = y - 1 by omega, show y - 2 + ((0 : Nat) : Int) = y - 2 by omega]
  have e0 : rbF f t [y - 2] = f (y - 2) := by
    simp only [rbF, List.foldl]
    rw [if_pos ⟨a0, by omega⟩]
  rw [e0]
  clear e0
  unfold lst
  generalize f (y - 2) = v0 at *
  generalize f (y - 1) = v1 at *
  generalize f y = v2 at *
  generalize f (y + 1) = v3 at *
  generalize f (y + 2) = v4 at *
  clear T
  by_cases q3 : v3 ≤ t
  · rw [if_neg (by omega)]
    have hx : (if v2 ≤ t ∧ (if v1 ≤ t ∧ v0 < v1 then v1 else v0) < v2 then v2 else if v1 ≤ t ∧ v0 < v1 then v1 else v0) < v3 := by split <;> split <;> omega
    rw [if_pos ⟨q3, hx⟩, if_pos q3]
  · rw [if_neg (by omega), if_neg (by omega), if_neg q3]
    by_cases q2 : v2 ≤ t
    · rw [if_pos q2, if_pos ⟨q2, by split <;> omega⟩]
    · rw [if_neg (by omega), if_neg q2]
      by_cases q1 : v1 ≤ t
      · rw [if_pos q1, if_pos ⟨q1, by omega⟩]
      · rw [if_neg q1, if_neg (by omega)]
set_option maxRecDepth 100000 in
set_option maxHeartbeats 2000000 in
theorem rOff_not (z : Zo) (t : Int) (w : World) (l1 : z.std.length ≤ 1000) (l2 : z.dst.length ≤ 1000) (h : (mayZ z && scB t) = false) :
    Calls Try.prog 16 #[zoV z, .int .i64 t] w fun e w' => e = .returned (.tuple #[.int .i64 0, .int .i64 1]) ∧ Kept w w' := by
  have HN := Lib.hid h; clear h
  have B0 := Lib.hid (bz_new w z)
  have K0 := Lib.hid ((Kept.refl w).alloc (.cells (zo15 z.std z.off z.has z.dst z.ahead z.fr.k z.fr.m z.fr.w z.fr.d z.fr.a z.to.k z.to.m z.to.w z.to.d z.to.a) 25))
  go_enter Try.func16, Try.ntmps16
  go_upto_region 1 with (fail)
  generalize w.alloc (.cells (zo15 z.std z.off z.has z.dst z.ahead z.fr.k z.fr.m z.fr.w z.fr.d z.fr.a z.to.k z.to.m z.to.w z.to.d z.to.a) 25) = x at *
  go_wp2_with (refine wpList_load_row rfl 25 _ rfl w.heap.size rfl 25 _ (0, 0) _ B0.out Try.underlying25 rfl (by kernel_rfl) ?_)
  refine (rMay_any z _ (by omega) (by omega)).mono ?_
  rintro e w1 ⟨rfl, k1⟩
  have B1 := Lib.hid (B0.out.kept k1)
  have K1 := Lib.hid (K0.out.trans k1)
  clear B0 K0 k1
  cases hz : mayZ z with
  | false =>
    clear hz
    go_wp2
    go_ret2
    exact ⟨rfl, K1.out⟩
  | true =>
    have ht : scB t = false := by have := HN.out; rw [hz] at this; simpa using this
    have hn : ¬ (0 ≤ t ∧ t ≤ 253402300799) := by simpa [scB] using ht
    clear hz ht
    by_cases h1 : t < 0
    · clear hn
      go_wp2
      go_ret2
      exact ⟨rfl, K1.out⟩
    · have h2 : 253402300799 < t := by omega
      clear hn
      go_wp2
      go_ret2
      exact ⟨rfl, K1.out⟩
set_option maxRecDepth 100000 in
set_option maxHeartbeats 4000000 in
theorem rOff_yes (z : Zo) (t : Int) (w : World) (l1 : z.std.length ≤ 1000) (l2 : z.dst.length ≤ 1000) (hz : mayZ z = true) (ht : scB t = true) :
    Calls Try.prog 16 #[zoV z, .int .i64 t] w fun e w' => e = .returned (.tuple #[.int .i64 (offP z t), .int .i64 0]) ∧ Kept w w' := by
  have HZ := Lib.hid hz
  have hb : 0 ≤ t ∧ t ≤ 253402300799 := by simpa [scB] using ht
  cases hh : z.has with
  | false =>
    have HO := Lib.hid (show offP z t = z.off by unfold offP offY; rw [if_neg (by simp [hh])])
    have HH := Lib.hid hh; clear hh hz ht
    have B0 := Lib.hid (bz_new w z)
    have K0 := Lib.hid ((Kept.refl w).alloc (.cells (zo15 z.std z.off z.has z.dst z.ahead z.fr.k z.fr.m z.fr.w z.fr.d z.fr.a z.to.k z.to.m z.to.w z.to.d z.to.a) 25))
    go_enter Try.func16, Try.ntmps16
    go_upto_region 1 with (fail)
    generalize w.alloc (.cells (zo15 z.std z.off z.has z.dst z.ahead z.fr.k z.fr.m z.fr.w z.fr.d z.fr.a z.to.k z.to.m z.to.w z.to.d z.to.a) 25) = x at *
    go_wp2_with (refine wpList_load_row rfl 25 _ rfl w.heap.size rfl 25 _ (0, 0) _ B0.out Try.underlying25 rfl (by kernel_rfl) ?_)
    refine (rMay_any z _ (by omega) (by omega)).mono ?_
    rintro e w1 ⟨rfl, k1⟩
    have B1 := Lib.hid (B0.out.kept k1)
    have K1 := Lib.hid (K0.out.trans k1)
    clear B0 K0 k1
    rw [HZ.out]
    have c1 := B1.out.cs.c1
    have c2 := B1.out.cs.c2
    rw [HH.out] at c2
    go_wp2
    go_ret2
    exact ⟨by rw [HO.out]; rfl, K1.out⟩
  | true =>
    obtain ⟨hY, y1, y2⟩ := of_year t w ht
    have HF := Lib.hid (rbF_lst (turn_from hz hh) hY (by omega))
    have HU := Lib.hid (rbF_lst (turn_upto hz hh) hY (by omega))
    have HO := Lib.hid (show offP z t = if lst (uptoT z) t (yr (t / 86400)) < lst (fromT z) t (yr (t / 86400)) then z.ahead else z.off by unfold offP offY; rw [if_pos hh])
    have hc : inCal t := by unfold inCal; omega
    have HC := Lib.hid hc
    have HH := Lib.hid hh; clear hh hz ht hY hc
    have B0 := Lib.hid (bz_new w z)
    have K0 := Lib.hid ((Kept.refl w).alloc (.cells (zo15 z.std z.off z.has z.dst z.ahead z.fr.k z.fr.m z.fr.w z.fr.d z.fr.a z.to.k z.to.m z.to.w z.to.d z.to.a) 25))
    go_enter Try.func16, Try.ntmps16
    go_upto_region 1 with (fail)
    generalize w.alloc (.cells (zo15 z.std z.off z.has z.dst z.ahead z.fr.k z.fr.m z.fr.w z.fr.d z.fr.a z.to.k z.to.m z.to.w z.to.d z.to.a) 25) = x at *
    go_wp2_with (refine wpList_load_row rfl 25 _ rfl w.heap.size rfl 25 _ (0, 0) _ B0.out Try.underlying25 rfl (by kernel_rfl) ?_)
    refine (rMay_any z _ (by omega) (by omega)).mono ?_
    rintro e w1 ⟨rfl, k1⟩
    have B1 := Lib.hid (B0.out.kept k1)
    have K1 := Lib.hid (K0.out.trans k1)
    clear B0 K0 k1
    rw [HZ.out]
    have c2 := B1.out.cs.c2
    rw [HH.out] at c2
    go_wp2_with fail
    refine (rat_yes t _ HC.out).mono ?_
    rintro e w2 ⟨hD, rfl, k2⟩
    clear c2 hD
    have B2 := Lib.hid (B1.out.kept k2)
    have K2 := Lib.hid (K1.out.trans k2)
    clear B1 K1 k2
    go_upto_region 7 with (fail)
    have kc := (Kept.refl w2).alloc (.cells #[.int .i64 (yr (t / 86400)), .int .i64 (mo (t / 86400)), .int .i64 (dy (t / 86400)), .int .i64 (t % 86400 / 3600), .int .i64 (t % 3600 / 60), .int .i64 (t % 60)] 35)
    have nc := new_block w2 (.cells #[.int .i64 (yr (t / 86400)), .int .i64 (mo (t / 86400)), .int .i64 (dy (t / 86400)), .int .i64 (t % 86400 / 3600), .int .i64 (t % 3600 / 60), .int .i64 (t % 60)] 35)
    generalize hq : w2.heap.size = q at *
    generalize w2.alloc (.cells #[.int .i64 (yr (t / 86400)), .int .i64 (mo (t / 86400)), .int .i64 (dy (t / 86400)), .int .i64 (t % 86400 / 3600), .int .i64 (t % 3600 / 60), .int .i64 (t % 60)] 35) = X at *
    have B3 := Lib.hid (B2.out.kept kc)
    have K3 := Lib.hid (K2.out.trans kc)
    clear B2 K2 kc
    have cy := cell_of nc (j := 0) rfl
    have NC := Lib.hid nc; clear nc
    generalize yr (t / 86400) = Y at *
    go_wp2_with fail
    go_loopw [9, 10, 11] (fun a b c y => ∃ k : Nat, k ≤ 5 ∧ a = .int .i64 (rbF (fromT z) t (yrs (Y - 2) k)) ∧ b = .int .i64 (rbF (uptoT z) t (yrs (Y - 2) k)) ∧ c = .int .i64 (Y - 2 + k) ∧ Kept X y) (fun _ _ c _ => (Y + 3 - intOf c).toNat)
    case atStart => exact ⟨0, by omega, rfl, rfl, by simp, Kept.refl _⟩
    case round =>
      obtain ⟨k, hk, rfl, rfl, rfl, hkp⟩ := hrel
      have cy := (hkp.cell (a := ⟨q, 0, none⟩) (Array.getElem?_eq_some_iff.1 NC.out).1).trans (cell_of NC.out (j := 0) rfl)
      by_cases hlt : k < 5
      · have Br := Lib.hid (B3.out.kept hkp)
        have SF := Lib.hid (rbF_snoc (fromT z) t (yrs (Y - 2) k) (Y - 2 + k))
        have SU := Lib.hid (rbF_snoc (uptoT z) t (yrs (Y - 2) k) (Y - 2 + k))
        have HP := Lib.hid hkp
        have hyb : yrB (Y - 2 + k) = true := by simp [yrB]; omega
        have HYB := Lib.hid hyb; clear hyb hkp
        have c0 := Br.out.cs.c0
        have c1 := Br.out.cs.c1
        have c2 := Br.out.cs.c2
        have c3 := Br.out.cs.c3
        have c4 := Br.out.cs.c4
        have c5 := Br.out.cs.c5
        have c6 := Br.out.cs.c6
        have c7 := Br.out.cs.c7
        have c8 := Br.out.cs.c8
        have c9 := Br.out.cs.c9
        have c10 := Br.out.cs.c10
        have c11 := Br.out.cs.c11
        have c12 := Br.out.cs.c12
        have c13 := Br.out.cs.c13
        have c14 := Br.out.cs.c14
        go_wp2_with fail
        clear c0 c1 c2 c3 c4 c5 c6 c7 c8 c9 c10 c11 c12 c13 c14
        refine (rTurns_yes z (Y - 2 + k) _ l1 l2 HYB.out HZ.out HH.out).mono ?_
        rintro e w5 ⟨rfl, k5⟩
        generalize hF : fromT z (Y - 2 + k) = F at *
        generalize hU : uptoT z (Y - 2 + k) = U at *
        generalize rbF (fromT z) t (yrs (Y - 2) k) = A at *
        generalize rbF (uptoT z) t (yrs (Y - 2) k) = B at *
        go_wp2
        all_goals
          go_roundw
          case rel => exact ⟨k + 1, by omega, by rw [show yrs (Y - 2) (k + 1) = yrs (Y - 2) k ++ [Y - 2 + (k : Int)] from rfl, SF.out]; congr 1; split <;> omega, by rw [show yrs (Y - 2) (k + 1) = yrs (Y - 2) k ++ [Y - 2 + (k : Int)] from rfl, SU.out]; congr 1; split <;> omega, by go_num, HP.out.trans k5⟩
          case measure => simp [intOf]; omega
      · obtain rfl : k = 5 := by omega
        rw [HF.out, HU.out]
        have Br := B3.out.kept hkp
        have c1 := Br.cs.c1
        have c4 := Br.cs.c4
        by_cases hlu : lst (uptoT z) t Y < lst (fromT z) t Y
        · have HR := Lib.hid (show offP z t = z.ahead by rw [HO.out, if_pos hlu])
          go_wp2
          go_ret2
          exact ⟨by rw [HR.out]; rfl, K3.out.trans hkp⟩
        · have HR := Lib.hid (show offP z t = z.off by rw [HO.out, if_neg hlu])
          go_wp2
          go_ret2
          exact ⟨by rw [HR.out]; rfl, K3.out.trans hkp⟩
end Go.Proofs.Ytcgmefojokndhaa
