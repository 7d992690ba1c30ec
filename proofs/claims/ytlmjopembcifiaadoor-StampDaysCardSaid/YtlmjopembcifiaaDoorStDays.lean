/- The law StampDays, walked. -/
import Derived.Test.YtlmjopembcifiaaDoorStAwake
namespace Go.Proofs.YtlmjopembcifiaaDoor
open Go.ChangeShapes Go.WideShapes Go.ChangeAt Go.RowKit
open Civ
/-- the day behind a day -/
theorem next_cases {n : Int} (h : Day n) (h' : Day (n + 1)) : (yr (n + 1) = yr n ∧ mo (n + 1) = mo n ∧ dy (n + 1) = dy n + 1) ∨ (yr (n + 1) = yr n ∧ mo (n + 1) = mo n + 1 ∧ dy (n + 1) = 1) ∨ (yr (n + 1) = yr n + 1 ∧ mo (n + 1) = 1 ∧ mo n = 12 ∧ dy (n + 1) = 1) := by
  obtain ⟨⟨h1, h2, h3, h4⟩, ho⟩ := h
  obtain ⟨m1, m2⟩ := ok_month h3 h4
  by_cases hd : dy n < dim (yr n) (mo n)
  · exact Or.inl (ymd_of (n := n + 1) (y := yr n) (m := mo n) (d := dy n + 1) ⟨h1, h2, by omega, by omega⟩ (by unfold ord at ho ⊢; omega))
  · by_cases hm : mo n < 12
    · have hdi := dim_in (yr n) (mo n + 1) (by omega) (by omega)
      have hc := cum_succ (yr n) (mo n) m1 m2
      exact Or.inr (Or.inl (ymd_of (n := n + 1) (y := yr n) (m := mo n + 1) (d := 1) ⟨h1, h2, by omega, by omega⟩ (by unfold ord at ho ⊢; omega)))
    · have e12 : mo n = 12 := by omega
      have hc := cum_succ (yr n) (mo n) m1 m2
      rw [e12] at hc
      have c13 := cum_13 (yr n)
      have hs := dby_succ (yr n) h1
      by_cases hy : yr n < 9999
      · have hdi := dim_in (yr n + 1) 1 (by omega) (by omega)
        obtain ⟨a, b, c⟩ := ymd_of (n := n + 1) (y := yr n + 1) (m := 1) (d := 1) ⟨by omega, by omega, by omega, by omega⟩ (by unfold ord at ho ⊢; rw [e12] at ho; rw [cum_1]; rw [show (12 : Int) + 1 = 13 from rfl] at hc; rw [e12] at hd h4; omega)
        exact Or.inr (Or.inr ⟨a, b, e12, c⟩)
      · exfalso
        have hb := (ord_bd h'.1).2
        rw [h'.2] at hb
        have e9 : yr n = 9999 := by omega
        unfold ord at ho
        rw [e12] at ho hd h4
        rw [show (12 : Int) + 1 = 13 from rfl] at hc
        rw [e9] at ho hc c13 hs hd h4
        rw [show (9999 : Int) + 1 = 10000 from rfl, dby_10000] at hs
        omega
set_option maxHeartbeats 4000000 in
theorem walkDays (t : Int) (w : World) (t0 : -9223372036854775808 ≤ t) (t1 : t ≤ 9223372036854775807) (htab : Tab w) :
    Calls Tryd.prog 10 #[.int .i64 t] w fun e w' => e = .returned (.bool true) ∧ Kept w w' := by
  have HT := Lib.hid htab; clear htab
  by_cases h1 : t < -62135596800
  · go_enter Tryd.func10, Tryd.ntmps10
    go_wp2_with fail
    refine (awake_yes _ HT.out).mono ?_
    rintro e w1 ⟨rfl, k1⟩
    go_wp2
    go_ret
    exact ⟨rfl, k1⟩
  · by_cases h2 : 253402214399 < t
    · have d1 : decide (t < -62135596800) = false := decide_eq_false h1
      go_enter Tryd.func10, Tryd.ntmps10
      go_wp2_with fail
      refine (awake_yes _ HT.out).mono ?_
      rintro e w1 ⟨rfl, k1⟩
      go_wp2
      go_ret
      exact ⟨rfl, k1⟩
    · have d1 : decide (t < -62135596800) = false := decide_eq_false h1
      have d2 : decide (253402214399 < t) = false := decide_eq_false h2
      go_enter Tryd.func10, Tryd.ntmps10
      go_wp2_with fail
      refine (awake_yes _ HT.out).mono ?_
      rintro e w1 ⟨rfl, k1⟩
      go_wp2_with fail
      refine (at_yes t _ ⟨by omega, by omega⟩).mono ?_
      rintro e w2 ⟨hday, rfl, k2⟩
      have HD := Lib.hid hday; clear hday
      go_wp2_with fail
      refine (at_yes (t + 86400) _ ⟨by omega, by omega⟩).mono ?_
      rintro e w3 ⟨hday2, rfl, k3⟩
      have e1 : (t + 86400) / 86400 = t / 86400 + 1 := by omega
      rw [e1] at hday2
      have hnx := next_cases HD.out hday2
      obtain ⟨b1, b2, b3, b4, b5, b6⟩ := day_bd HD.out
      have e2 : (t + 86400) % 86400 = t % 86400 := by omega
      have e3 : (t + 86400) % 3600 = t % 3600 := by omega
      have e4 : (t + 86400) % 60 = t % 60 := by omega
      have ec : cv (t + 86400) = civ (yr (t / 86400 + 1)) (mo (t / 86400 + 1)) (dy (t / 86400 + 1)) (t % 86400 / 3600) (t % 3600 / 60) (t % 60) := by
        show civ _ _ _ _ _ _ = _
        rw [e1, e2, e3, e4]
      rw [ec]
      have c0 := k3.new2 0 rfl
      have c1 := k3.new2 1 rfl
      have c2 := k3.new2 2 rfl
      have c3 := k3.new2 3 rfl
      have c4 := k3.new2 4 rfl
      have c5 := k3.new2 5 rfl
      have kk := Lib.hid ((k1.trans k2).trans k3.back)
      clear k1 k2 k3 e1 e2 e3 e4 ec hday2 HD d1 d2
      generalize yr (t / 86400) = y at *
      generalize mo (t / 86400) = m at *
      generalize dy (t / 86400) = d at *
      generalize yr (t / 86400 + 1) = y' at *
      generalize mo (t / 86400 + 1) = m' at *
      generalize dy (t / 86400 + 1) = d' at *
      generalize t % 86400 / 3600 = h at *
      generalize t % 3600 / 60 = i at *
      generalize t % 60 = s at *
      rcases hnx with ⟨rfl, rfl, rfl⟩ | ⟨rfl, rfl, rfl⟩ | ⟨rfl, rfl, rfl, rfl⟩
      · have z : (d == 0) = false := by simpa using (show ¬ d = 0 by omega)
        go_wp2
        go_ret
        exact ⟨rfl, kk.out.alloc _⟩
      · go_wp2
        go_ret
        exact ⟨rfl, kk.out.alloc _⟩
      · go_wp2
        go_ret
        exact ⟨rfl, kk.out.alloc _⟩
end Go.Proofs.YtlmjopembcifiaaDoor
