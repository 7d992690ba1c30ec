/- The law StampWrites, walked. -/
import Derived.Test.YtlmjopembcifiaaDoorStRefM
import Derived.Test.YtlmjopembcifiaaDoorStAwake
namespace Go.Proofs.YtlmjopembcifiaaDoor
open Go.ChangeShapes Go.WideShapes Go.ChangeAt Go.RowKit
open Civ
theorem rmail_yes (t o : Int) (w : World) (h0 : -93599 ≤ o) (h1 : o ≤ 93599) (h : inCal (t + o)) : Calls Tryd.prog 21 #[.int .i64 t, .int .i64 o] w (MailPost (t + o) o w) := by
  by_cases hn : o < 0
  · obtain ⟨p, rfl⟩ : ∃ p, o = -p := ⟨-o, by omega⟩
    exact rmail_neg t p w (by omega) (by omega) h
  · exact rmail_pos t o w (by omega) h1 h
set_option maxHeartbeats 1000000 in
theorem rmail_off (t o : Int) (w : World) (h : o < -93599 ∨ 93599 < o) :
    Calls Tryd.prog 21 #[.int .i64 t, .int .i64 o] w fun e w' => e = .returned (.tuple #[.string ⟨#[]⟩, .int .i64 1]) ∧ Kept w w' := by
  rcases h with h | h
  · go_enter Tryd.func21, Tryd.ntmps21
    go_wp2
    go_ret2
    exact ⟨rfl, Kept.refl _⟩
  · have h' : decide (o < -93599) = false := decide_eq_false (by omega)
    go_enter Tryd.func21, Tryd.ntmps21
    go_wp2
    go_ret2
    exact ⟨rfl, Kept.refl _⟩
set_option maxHeartbeats 1000000 in
theorem rmail_not (t o : Int) (w : World) (h0 : -93599 ≤ o) (h1 : o ≤ 93599) (h : ¬ inCal (t + o)) :
    Calls Tryd.prog 21 #[.int .i64 t, .int .i64 o] w fun e w' => e = .returned (.tuple #[.string ⟨#[]⟩, .int .i64 1]) ∧ Kept w w' := by
  have d0 : decide (o < -93599) = false := decide_eq_false (by omega)
  have d1 : decide (93599 < o) = false := decide_eq_false (by omega)
  by_cases t0 : t < -1099511627776
  · have HC := Lib.hid h; clear h
    clear h0 h1
    go_enter Tryd.func21, Tryd.ntmps21
    go_wp2
    go_ret2
    exact ⟨rfl, Kept.refl _⟩
  · have d2 : decide (t < -1099511627776) = false := decide_eq_false t0
    by_cases t1 : 1099511627776 < t
    · have HC := Lib.hid h; clear h
      clear h0 h1 t0
      go_enter Tryd.func21, Tryd.ntmps21
      go_wp2
      go_ret2
      exact ⟨rfl, Kept.refl _⟩
    · have d3 : decide (1099511627776 < t) = false := decide_eq_false t1
      have HC := Lib.hid h; clear h
      go_enter Tryd.func21, Tryd.ntmps21
      go_wp2_with fail
      refine (rat_not (t + o) _ (by omega) (by omega) HC.out).mono ?_
      rintro e w1 ⟨rfl, k1⟩
      go_wp2
      go_ret2
      exact ⟨rfl, k1.alloc _⟩
set_option maxHeartbeats 4000000 in
theorem walkWrites (t o : Int) (w : World) (t0 : -9223372036854775808 ≤ t) (t1 : t ≤ 9223372036854775807) (_ : -9223372036854775808 ≤ o) (_ : o ≤ 9223372036854775807) (htab : Tab w) :
    Calls Tryd.prog 4 #[.int .i64 t, .int .i64 o] w fun e w' => e = .returned (.bool true) ∧ Kept w w' := by
  have HT := Lib.hid htab; clear htab
  have X : ∃ (S : ByteArray) (n : Int), (∀ w, Tab w → Calls Tryd.prog 18 #[.int .i64 t] w fun e w' => e = .returned (.tuple #[.string S, .int .i64 n]) ∧ Kept w w') ∧ (∀ w, Calls Tryd.prog 19 #[.int .i64 t] w fun e w' => e = .returned (.tuple #[.string S, .int .i64 n]) ∧ Kept w w') := by
    by_cases hi : inCal t
    · exact ⟨_, _, fun w ht => (text_yes t w hi ht).mono fun e w' h => h.2, fun w => (rtext_yes t w hi).mono fun e w' h => h.2⟩
    · exact ⟨_, _, fun w ht => text_not t w t0 t1 hi, fun w => rtext_not t w t0 t1 hi⟩
  have Y : ∃ (S : ByteArray) (n : Int), (∀ w, Tab w → Calls Tryd.prog 20 #[.int .i64 t, .int .i64 o] w fun e w' => e = .returned (.tuple #[.string S, .int .i64 n]) ∧ Kept w w') ∧ (∀ w, Calls Tryd.prog 21 #[.int .i64 t, .int .i64 o] w fun e w' => e = .returned (.tuple #[.string S, .int .i64 n]) ∧ Kept w w') := by
    by_cases ho : o < -93599 ∨ 93599 < o
    · exact ⟨_, _, fun w _ => (mail_off t o w ho).mono fun e w' h => ⟨h.1, Kept.of_eq h.2⟩, fun w => rmail_off t o w ho⟩
    · by_cases hi : inCal (t + o)
      · exact ⟨_, _, fun w ht => (mail_yes t o w (by omega) (by omega) hi ht).mono fun e w' h => h.2, fun w => (rmail_yes t o w (by omega) (by omega) hi).mono fun e w' h => h.2⟩
      · exact ⟨_, _, fun w _ => mail_not t o w (by omega) (by omega) t0 t1 hi, fun w => rmail_not t o w (by omega) (by omega) hi⟩
  obtain ⟨S1, n1, A1, A2⟩ := X
  obtain ⟨S2, n2, B1, B2⟩ := Y
  have A1' := Lib.hid A1; clear A1
  have A2' := Lib.hid A2; clear A2
  have B1' := Lib.hid B1; clear B1
  have B2' := Lib.hid B2; clear B2
  go_enter Tryd.func4, Tryd.ntmps4
  go_wp2_with fail
  refine (awake_yes _ HT.out).mono ?_
  rintro e w1 ⟨rfl, k1⟩
  go_wp2_with fail
  refine (A1'.out _ (k1.tab' HT.out)).mono ?_
  rintro e w2 ⟨rfl, k2⟩
  have q2 := k1.trans k2
  go_wp2_with fail
  refine (A2'.out _).mono ?_
  rintro e w3 ⟨rfl, k3⟩
  have q3 := q2.trans k3
  go_wp2_with fail
  refine (B1'.out _ (q3.tab' HT.out)).mono ?_
  rintro e w4 ⟨rfl, k4⟩
  have q4 := q3.trans k4
  go_wp2_with fail
  refine (B2'.out _).mono ?_
  rintro e w5 ⟨rfl, k5⟩
  have KK := Lib.hid (q4.trans k5)
  clear k1 k2 k3 k4 k5 q2 q3 q4
  go_wp2
  go_ret
  exact ⟨rfl, KK.out⟩
end Go.Proofs.YtlmjopembcifiaaDoor
