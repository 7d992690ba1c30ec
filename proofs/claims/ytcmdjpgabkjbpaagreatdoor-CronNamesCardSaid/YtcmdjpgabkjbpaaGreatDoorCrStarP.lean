/- Plain mathematics: five stars, and a number in the place of one; a number's digits. -/
import Derived.Test.YtcmdjpgabkjbpaaGreatDoorCrAwake
import Derived.BigQuiet
set_option linter.unusedVariables false
namespace Go.Proofs.YtcmdjpgabkjbpaaGreatDoor
open Go.ChangeShapes Go.WideShapes Go.ChangeAt Go.RowKit
open Crn Civ
def full (f : Nat) : List Int := lst f ((sq (lo f) (Crn.hi f) 1).map (cnt f))
theorem full_has (f : Nat) (n : Int) (h1 : lo f ≤ n) (h2 : n ≤ Crn.hi f) : hasB (full f) n = true := by
  unfold hasB full
  rw [List.contains_iff_mem, lst_mem]
  refine ⟨h1, h2, List.mem_map.2 ⟨n, (sq_mem (by omega) _ _ _ (Nat.le_refl _)).2 ⟨h1, h2, by omega⟩, ?_⟩⟩
  unfold cnt; rw [if_neg (by omega)]
theorem wd_bd (n : Int) : 0 ≤ wd n ∧ wd n ≤ 6 := by unfold wd; split <;> omega
theorem may_bd {y m d h i s : Int} (k : mayB y m d h i s = true) : okB y m d = true ∧ (1 ≤ m ∧ m ≤ 12) ∧ (1 ≤ d ∧ d ≤ 31) ∧ (0 ≤ h ∧ h ≤ 23) ∧ (0 ≤ i ∧ i ≤ 59) := by
  unfold mayB at k
  rw [Bool.and_eq_true] at k
  have h1 := (okB_iff y m d).1 k.1
  have h2 := tm_bd k.2
  have h3 := ok_month h1.2.2.1 h1.2.2.2
  have h4 := dim_bd y m
  exact ⟨k.1, h3, by omega, by omega, by omega⟩
theorem star_match {c : CR} (hm : mayC c = true) (h1 : c.L 1 = full 1) (h2 : c.L 2 = full 2) (h3 : c.L 3 = full 3) (h4 : c.L 4 = full 4) (hs : c.st 2 = true) (y m d h i s : Int) :
    matchC c y m d h i s = (mayB y m d h i s && decide (s = 0) && hasB (c.L 0) i) := by
  unfold matchC
  cases hk : mayB y m d h i s with
  | false => rfl
  | true =>
    obtain ⟨k1, k2, k3, k4, k5⟩ := may_bd hk
    have e1 : hasB (c.L 1) h = true := by rw [h1]; exact full_has 1 h k4.1 k4.2
    have e2 : dayC c y m d = true := by
      unfold dayC
      rw [k1, hm, h3, full_has 3 m k2.1 k2.2, hs, h2, full_has 2 d k3.1 k3.2, h4, full_has 4 _ (wd_bd _).1 (wd_bd _).2]
      rfl
    rw [e1, e2]; simp
def chk (s : List UInt8) (l : List Int) : Bool := match prs s with
  | none => false
  | some c => mayC c && decide (c.L 0 = l) && decide (c.L 1 = full 1) && decide (c.L 2 = full 2) && decide (c.L 3 = full 3) && decide (c.L 4 = full 4) && c.st 2 && c.st 1
theorem chk_out {s : List UInt8} {l : List Int} (h : chk s l = true) : ∃ c, prs s = some c ∧ c.L 0 = l ∧ c.st 1 = true ∧ ∀ y m d h i s, matchC c y m d h i s = (mayB y m d h i s && decide (s = 0) && hasB (c.L 0) i) := by
  unfold chk at h
  cases hp : prs s with
  | none => rw [hp] at h; cases h
  | some c =>
    rw [hp] at h
    simp only [Bool.and_eq_true, decide_eq_true_eq] at h
    obtain ⟨⟨⟨⟨⟨⟨⟨h0, h1⟩, h2⟩, h3⟩, h4⟩, h5⟩, h6⟩, h7⟩ := h
    exact ⟨c, rfl, h1, h7, star_match h0 h2 h3 h4 h5 h6⟩
abbrev st5 : List UInt8 := [42, 32, 42, 32, 42, 32, 42, 32, 42]
abbrev st4 : List UInt8 := [32, 42, 32, 42, 32, 42, 32, 42]
theorem star_A : ∃ c, prs st5 = some c ∧ ∀ y m d h i s, matchC c y m d h i s = (mayB y m d h i s && decide (s = 0)) := by
  obtain ⟨c, h1, h2, _, h3⟩ := chk_out (show chk st5 (full 0) = true by kernel_rfl)
  refine ⟨c, h1, fun y m d h i s => ?_⟩
  rw [h3, h2]
  cases hk : mayB y m d h i s with
  | false => rfl
  | true => rw [full_has 0 i (may_bd hk).2.2.2.2.1 (may_bd hk).2.2.2.2.2]; simp
theorem chk_60 : (List.range 60).all (fun n => chk (d2 n ++ st4) [(n : Int)]) = true := by kernel_rfl
theorem star_B (n : Int) (h0 : 0 ≤ n) (h1 : n ≤ 59) : ∃ c, prs (d2 n ++ st4) = some c ∧ ∀ y m d h i s, matchC c y m d h i s = (mayB y m d h i s && decide (s = 0) && decide (i = n)) := by
  obtain ⟨k, rfl⟩ : ∃ k : Nat, n = k := ⟨n.toNat, by omega⟩
  have := List.all_eq_true.1 chk_60 k (List.mem_range.2 (by omega))
  obtain ⟨c, h2, h3, _, h4⟩ := chk_out this
  refine ⟨c, h2, fun y m d h i s => ?_⟩
  rw [h4, h3]
  congr 1
  by_cases e : i = k
  · subst e; simp [hasB]
  · rw [decide_eq_false e]; simp [hasB, e]
theorem d2_len (n : Int) : (d2 n).length ≤ 2 ∧ 1 ≤ (d2 n).length := by unfold d2; split <;> simp
theorem ext_one : ∀ k : Fin 10, (ByteArray.mk #[48, 49, 50, 51, 52, 53, 54, 55, 56, 57]).extract k.val (k.val + 1) = ⟨[UInt8.ofNat (48 + k.val)].toArray⟩ := by decide
set_option maxRecDepth 100000 in
set_option maxHeartbeats 1000000 in
theorem ldigits_any (n : Int) (h0 : 0 ≤ n) (h1 : n < 100) (w : World) : Calls Tryz.prog 27 #[.int .i64 n] w fun e w' => e = .returned (.string ⟨(d2 n).toArray⟩) ∧ Kept w w' := by
  obtain ⟨k, rfl⟩ : ∃ k : Nat, n = k := ⟨n.toNat, by omega⟩
  by_cases h : k < 10
  · have hx := ext_one ⟨k, h⟩
    have HD := Lib.hid (show d2 (k : Int) = [UInt8.ofNat (48 + k)] by unfold d2; rw [if_pos (by omega)]; simp)
    simp only at hx
    generalize UInt8.ofNat (48 + k) = b at *
    go_enter Tryz.func27, Tryz.ntmps27
    go_wp2
    go_ret
    rw [HD.out]
    exact ⟨rfl, Kept.refl _⟩
  · have hx1 := ext_one ⟨k / 10, by omega⟩
    have hx2 := ext_one ⟨k % 10, by omega⟩
    have HD := Lib.hid (show d2 (k : Int) = [UInt8.ofNat (48 + k / 10)] ++ [UInt8.ofNat (48 + k % 10)] by unfold d2; rw [if_neg (by omega)]; simp)
    simp only at hx1 hx2
    generalize UInt8.ofNat (48 + k / 10) = a at *
    generalize UInt8.ofNat (48 + k % 10) = b at *
    have g1 : (k : Int).tdiv 10 = ((k / 10 : Nat) : Int) := by rw [Int.tdiv_eq_ediv_of_nonneg (by omega)]; omega
    have g2 : (k : Int).tmod 10 = ((k % 10 : Nat) : Int) := by rw [Int.tmod_eq_emod_of_nonneg (by omega)]; omega
    have hq : (k / 10 : Nat) < 10 := by omega
    have hr : (k % 10 : Nat) < 10 := by omega
    go_enter Tryz.func27, Tryz.ntmps27
    go_wp2_with fail
    go_quiet (fail)
    go_wp2
    go_ret
    rw [HD.out, ← app_mk]
    exact ⟨rfl, (Kept.refl w).drewN _⟩
/-- a parse that yields -/
theorem parsed {s : List UInt8} {c : CR} (h2 : s.length ≤ 200) (h : prs s = some c) {W W' : World} {e : Ending} (hp : ParsePost s W e W') : ∃ sl, e = .returned (.tuple #[crV sl c.st, .int .i64 0]) ∧ Cr W' sl c.L ∧ Kept W W' := by
  unfold ParsePost at hp
  rw [if_neg (by omega), h] at hp
  obtain ⟨sl, h1, h2, h3⟩ := hp
  exact ⟨sl, h1, fun i hi => (h2 i hi).rs, h3⟩
end Go.Proofs.YtcmdjpgabkjbpaaGreatDoor
