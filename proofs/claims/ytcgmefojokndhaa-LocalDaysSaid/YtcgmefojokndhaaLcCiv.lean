/- Days and times: whether two are the same; a second's, and a day and time's second. -/
import Derived.Test.YtcgmefojokndhaaLcRefA
namespace Go.Proofs.Ytcgmefojokndhaa
open Go.ChangeShapes Go.WideShapes Go.ChangeAt Go.RowKit
open Civ Zn Lc
def cvE (y m d h i s y' m' d' h' i' s' : Int) : Bool := y == y' && (m == m' && (d == d' && (h == h' && (i == i' && s == s'))))
theorem cvE_iff {y m d h i s y' m' d' h' i' s' : Int} : cvE y m d h i s y' m' d' h' i' s' = true ↔ y = y' ∧ m = m' ∧ d = d' ∧ h = h' ∧ i = i' ∧ s = s' := by
  simp [cvE]
set_option maxRecDepth 100000 in
theorem eq_civ (y m d h i s y' m' d' h' i' s' : Int) (w : World) : (Op.equalIn 10000 35 (civ y m d h i s) (civ y' m' d' h' i' s')).run Try.prog w = .ok (cvE y m d h i s y' m' d' h' i' s') w := by
  have h1 : Try.prog.stoodInHeld 35 = false := by kernel_rfl
  rw [run_equalIn_struct w 9999 35 _ _ (by simp [go_sem]) h1]
  unfold cvE
  simp [go_sem]
  simp only [if_ok, if_bb, Bool.and_true]
  rfl
theorem eql_civ (y m d h i s y' m' d' h' i' s' : Int) (w : World) : (binOp .eql 35 (civ y m d h i s) (civ y' m' d' h' i' s')).run Try.prog w = .ok (.bool (cvE y m d h i s y' m' d' h' i' s')) w := by
  rw [run_eql_struct, eq_civ]; rfl
theorem sec_at (t : Int) (h : Day (t / 86400)) : sec (yr (t / 86400)) (mo (t / 86400)) (dy (t / 86400)) (t % 86400 / 3600) (t % 3600 / 60) (t % 60) = t := by
  unfold sec; rw [h.2]; omega
theorem cv_sec {y m d h i s : Int} (k : okP y m d) (kt : tmB h i s = true) : (yr (sec y m d h i s / 86400) = y ∧ mo (sec y m d h i s / 86400) = m ∧ dy (sec y m d h i s / 86400) = d ∧ sec y m d h i s % 86400 / 3600 = h ∧ sec y m d h i s % 3600 / 60 = i ∧ sec y m d h i s % 60 = s) ∧ inCal (sec y m d h i s) := by
  obtain ⟨a1, a2, a3, a4, a5, a6⟩ := tm_bd kt
  obtain ⟨o1, o2⟩ := ord_bd k
  have e1 : sec y m d h i s / 86400 = ord y m d := by unfold sec; omega
  obtain ⟨f1, f2, f3⟩ := ymd_of (n := sec y m d h i s / 86400) k e1.symm
  refine ⟨⟨f1, f2, f3, ?_, ?_, ?_⟩, ?_⟩
  · unfold sec; omega
  · unfold sec; omega
  · unfold sec; omega
  · unfold inCal sec; omega
/-- the day and time of v is the one asked for, just where v is its second -/
theorem cvE_at {y m d h i s v : Int} (k : okP y m d) (kt : tmB h i s = true) (hv : Day (v / 86400)) : cvE (yr (v / 86400)) (mo (v / 86400)) (dy (v / 86400)) (v % 86400 / 3600) (v % 3600 / 60) (v % 60) y m d h i s = decide (v = sec y m d h i s) := by
  rw [Bool.eq_iff_iff, cvE_iff, decide_eq_true_eq]
  constructor
  · rintro ⟨rfl, rfl, rfl, rfl, rfl, rfl⟩
    exact (sec_at v hv).symm
  · rintro rfl
    exact (cv_sec k kt).1
end Go.Proofs.Ytcgmefojokndhaa
