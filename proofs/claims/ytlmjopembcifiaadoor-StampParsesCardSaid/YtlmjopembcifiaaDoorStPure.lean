/- Plain mathematics of seconds and of their texts (no program in it). -/
import Derived.Test.YtlmjopembcifiaaDoorCivPure
import Derived.Lib.ItoaNum
import Derived.Lib.Repeat
namespace Go.Proofs.YtlmjopembcifiaaDoor.Civ

/-! Digits. -/
def dig : Nat → Nat → List UInt8
  | 0, _ => []
  | k + 1, n => dig k (n / 10) ++ [UInt8.ofNat (48 + n % 10)]
theorem dig_length (k n : Nat) : (dig k n).length = k := by
  induction k generalizing n with
  | zero => rfl
  | succ k ih => simp [dig, ih]
theorem rep_eq (k : Nat) : Lib.repeatL [48] k = List.replicate k 48 := by
  induction k with
  | zero => rfl
  | succ k ih => simp [Lib.repeatL, ih, List.replicate_succ]
theorem dig_zero (k : Nat) : dig k 0 = List.replicate k 48 := by
  induction k with
  | zero => rfl
  | succ k ih => rw [dig, Nat.zero_div, ih, List.replicate_succ']; rfl
theorem dig_pad (k n : Nat) (hk : 1 ≤ k) (h : n < 10 ^ k) : Lib.repeatL [48] (k - (Lib.decDigits n).length) ++ Lib.decDigits n = dig k n := by
  rw [rep_eq]
  induction k generalizing n with
  | zero => omega
  | succ k ih =>
    by_cases h10 : n < 10
    · rw [Lib.decDigits_one h10, dig, Nat.div_eq_of_lt h10, dig_zero, Nat.mod_eq_of_lt h10]
      simp
    · have hlt : n / 10 < 10 ^ k := by rw [Nat.pow_succ] at h; omega
      have hk1 : 1 ≤ k := by
        rcases k with _ | k
        · simp at hlt; omega
        · omega
      have := ih (n / 10) hk1 hlt
      rw [Lib.decDigits, dif_neg h10, dig, ← this]
      simp only [List.length_append, List.length_cons, List.length_nil, List.append_assoc]
      rw [show k + 1 - ((Lib.decDigits (n / 10)).length + (0 + 1)) = k - (Lib.decDigits (n / 10)).length by omega]
theorem dec_len (k n : Nat) (hk : 1 ≤ k) (h : n < 10 ^ k) : (Lib.decDigits n).length ≤ k := by
  have := congrArg List.length (dig_pad k n hk h)
  rw [List.length_append, dig_length] at this
  omega
/-- One more digit ahead. -/
theorem dig_front (k n : Nat) : dig (k + 1) n = UInt8.ofNat (48 + n / 10 ^ k % 10) :: dig k n := by
  induction k generalizing n with
  | zero => simp [dig]
  | succ k ih => rw [dig, ih, dig, Nat.div_div_eq_div_mul, Nat.pow_succ, Nat.mul_comm 10]; rfl
end Go.Proofs.YtlmjopembcifiaaDoor.Civ
