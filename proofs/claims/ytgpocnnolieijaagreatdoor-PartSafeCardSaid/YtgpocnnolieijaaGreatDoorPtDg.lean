/- The law's own digits of a number. -/
import Derived.Test.YtgpocnnolieijaaGreatDoorPtSm
set_option linter.unusedSimpArgs false
set_option linter.unusedVariables false
namespace Go.Proofs.YtgpocnnolieijaaGreatDoor.Pt
open Go.ChangeShapes Go.WideShapes Go.ChangeAt Go.RowKit Go.Shelf
theorem slice_dig (n : Nat) (h : n < 10) (w : World) : (Instr.slice 9 (.string ⟨#[48, 49, 50, 51, 52, 53, 54, 55, 56, 57]⟩) (some (.int .i64 (n : Int))) (some (.int .i64 ((n : Int) + 1))) none).run Tryz.prog w = .ok (.string ⟨#[UInt8.ofNat (48 + n)]⟩) w := by
  rw [run_slice_string w 9 _ .i64 .i64 _ _ Tryz.underlying9 (by omega) (by omega) (by show (n : Int) + 1 ≤ 10; omega)]
  rw [show (n : Int).toNat = n by omega, show ((n : Int) + 1).toNat = n + 1 by omega, digitR_at _ h]
set_option maxRecDepth 100000 in
set_option maxHeartbeats 2000000 in
theorem digits_small (n : Nat) (h : n < 10) (w : World) : Calls Tryz.prog 17 #[iV n] w fun e w' => e = .returned (sV (Lib.decDigits n)) ∧ ∃ q, w' = w.drewN q := by
  have hs := slice_dig n h
  have hI : (n : Int) < 10 := by omega
  have HZ := Lib.hid (Lib.decDigits_one h)
  generalize UInt8.ofNat (48 + n) = c at *
  go_enter Tryz.func17, Tryz.ntmps17
  go_wp2
  go_ret
  exact ⟨by rw [HZ.out]; rfl, 0, rfl⟩
set_option maxRecDepth 100000 in
set_option maxHeartbeats 2000000 in
theorem digits_big (n : Nat) (h : 10 ≤ n) (hn : n ≤ 1000000) (w : World) (ih : ∀ w, Calls Tryz.prog 17 #[iV (n / 10 : Nat)] w fun e w' => e = .returned (sV (Lib.decDigits (n / 10))) ∧ ∃ q, w' = w.drewN q) : Calls Tryz.prog 17 #[iV n] w fun e w' => e = .returned (sV (Lib.decDigits n)) ∧ ∃ q, w' = w.drewN q := by
  have hI : ¬ (n : Int) < 10 := by omega
  have hs := slice_dig (n % 10) (Nat.mod_lt _ (by omega))
  have HZ := Lib.hid (show Lib.decDigits n = Lib.decDigits (n / 10) ++ [UInt8.ofNat (48 + n % 10)] by rw [Lib.decDigits, dif_neg (by omega)])
  have hdl := dec_len (n / 10) (n / 10) (Nat.le_refl _)
  have hds : (ByteArray.mk (Lib.decDigits (n / 10)).toArray).size = (Lib.decDigits (n / 10)).length := List.size_toArray
  have q1 : (n : Int).tdiv 10 = ((n / 10 : Nat) : Int) := by rw [Int.tdiv_eq_ediv_of_nonneg (by omega)]; omega
  have q2 : (n : Int).tmod 10 = ((n % 10 : Nat) : Int) := by rw [Int.tmod_eq_emod_of_nonneg (by omega)]; omega
  have q3 : (n : Int) / 10 = ((n / 10 : Nat) : Int) := by omega
  have q4 : (n : Int) % 10 = ((n % 10 : Nat) : Int) := by omega
  have hm10 : n % 10 < 10 := Nat.mod_lt _ (by omega)
  have hd6 : n / 10 ≤ 1000000 := by omega
  generalize n / 10 = d at *
  generalize n % 10 = m at *
  generalize UInt8.ofNat (48 + m) = c at *
  have q5 : IntKind.i64.wrap ((m : Int) + 1) = (m : Int) + 1 := by rw [IntKind.wrap_i64]; omega
  have q6 : IntKind.i64.wrap ((d : Int)) = (d : Int) := by rw [IntKind.wrap_i64]; omega
  have app := Hd.app_mk (Lib.decDigits d) [c]
  generalize Lib.decDigits d = dd at *
  have hnb : ¬ 9223372036854775807 < dd.length + 1 := by omega
  go_enter Tryz.func17, Tryz.ntmps17
  go_upto_region 4 with (fail)
  go_quiet ((go_at_call 17; exact Calls.quiet_of (ih _)))
  go_wp2
  go_ret
  refine ⟨?_, _, rfl⟩
  rw [HZ.out]
  exact congrArg (fun b => Ending.returned (Value.string b)) app
theorem digits_any : ∀ (k n : Nat), n ≤ k → n ≤ 1000000 → ∀ w : World, Calls Tryz.prog 17 #[iV n] w fun e w' => e = .returned (sV (Lib.decDigits n)) ∧ ∃ q, w' = w.drewN q
  | 0, n, h, _, w => digits_small n (by omega) w
  | k + 1, n, h, hn, w => if h10 : n < 10 then digits_small n h10 w else digits_big n (by omega) hn w (fun w => digits_any k (n / 10) (by omega) (by omega) w)
end Go.Proofs.YtgpocnnolieijaaGreatDoor.Pt
