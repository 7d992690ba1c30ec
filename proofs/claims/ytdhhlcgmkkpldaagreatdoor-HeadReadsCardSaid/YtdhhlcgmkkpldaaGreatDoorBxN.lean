/- Bits of numbers that are not negative. -/
import Derived.Test.YtdhhlcgmkkpldaaGreatDoorBxX
import Derived.Laws.BitsLemmas
set_option linter.unusedSimpArgs false
set_option linter.unusedVariables false
namespace Go.Proofs.YtdhhlcgmkkpldaaGreatDoor
open Go.ChangeShapes Go.WideShapes Go.ChangeAt Go.RowKit
open Bx
theorem wraps_i64' (n : Int) (h₀ : 0 ≤ n) (h₁ : n < 2 ^ 62) : IntKind.i64.wrap n = n := by rw [IntKind.wrap_i64]; omega
theorem or_i64 (i : Nat) (x y : Int) (hx₀ : 0 ≤ x) (hx : x % 2 ^ i = 0) (hx₁ : x < 2 ^ 62) (hy₀ : 0 ≤ y) (hy : y < 2 ^ i) (hy₁ : y < 2 ^ 62) : bits .or .i64 x y = x + y :=
  bits_join .i64 62 (by decide) wraps_i64' i x y hx₀ hx hx₁ hy₀ hy hy₁
theorem and_i64 (i : Nat) (hi : i ≤ 62) (x : Int) (h₀ : 0 ≤ x) (h₁ : x < 2 ^ 62) : bits .and .i64 x (2 ^ i - 1) = x % 2 ^ i :=
  bits_mask .i64 62 (by decide) wraps_i64' i hi x h₀ h₁
theorem and_63 (x : Int) (h₀ : 0 ≤ x) (h₁ : x < 2 ^ 62) : bits .and .i64 x 63 = x % 64 := and_i64 6 (by decide) x h₀ h₁
theorem and_15 (x : Int) (h₀ : 0 ≤ x) (h₁ : x < 2 ^ 62) : bits .and .i64 x 15 = x % 16 := and_i64 4 (by decide) x h₀ h₁
theorem and_3 (x : Int) (h₀ : 0 ≤ x) (h₁ : x < 2 ^ 62) : bits .and .i64 x 3 = x % 4 := and_i64 2 (by decide) x h₀ h₁
theorem and_0 (x : Int) (h₀ : 0 ≤ x) (h₁ : x < 2 ^ 62) : bits .and .i64 x 0 = 0 := by
  have := and_i64 0 (by decide) x h₀ h₁
  simpa using this
theorem or_64 (x y : Int) (hx₀ : 0 ≤ x) (hx₁ : x < 2 ^ 50) (hy₀ : 0 ≤ y) (hy : y < 64) : bits .or .i64 (x * 64) y = x * 64 + y :=
  or_i64 6 (x * 64) y (by omega) (by omega) (by omega) hy₀ (by omega) (by omega)
theorem wrap_small (x : Int) (h0 : 0 ≤ x) (h1 : x < 2 ^ 50) : wrap64 x = x := by unfold wrap64; omega
theorem m_lt (n d : Nat) (hn : n < 64) (hd : d < 64) : 64 * n + d < 4096 := by omega
theorem read_bits (n d : Nat) (hn : n < 64) (hd : d < 64) : bits BinOp.or IntKind.i64 ((n : Int) * 64) (d : Int) = ((64 * n + d : Nat) : Int) := by
  have h1 : (n : Int) < 64 := by omega
  have h2 : (d : Int) < 64 := by omega
  rw [or_64 _ _ (by omega) (by omega) (by omega) (by omega)]
  omega
theorem num_bits (a b c : UInt8) : bits BinOp.or IntKind.i64 (bits BinOp.or IntKind.i64 (wrap64 (wrap64 (a.toNat : Int) * 65536)) (wrap64 (wrap64 (b.toNat : Int) * 256))) (wrap64 (c.toNat : Int)) = (num a b c : Int) := by
  have ha := a.toNat_lt
  have hb := b.toNat_lt
  have hc := c.toNat_lt
  have w1 : ∀ x : Int, 0 ≤ x → x < 2 ^ 50 → wrap64 x = x := fun x h0 h1 => by unfold wrap64; omega
  rw [w1 (a.toNat : Int) (by omega) (by omega), w1 (b.toNat : Int) (by omega) (by omega), w1 (c.toNat : Int) (by omega) (by omega), w1 _ (by omega) (by omega), w1 _ (by omega) (by omega)]
  rw [or_i64 16 ((a.toNat : Int) * 65536) ((b.toNat : Int) * 256) (by omega) (by omega) (by omega) (by omega) (by omega) (by omega), or_i64 8 ((a.toNat : Int) * 65536 + (b.toNat : Int) * 256) (c.toNat : Int) (by omega) (by omega) (by omega) (by omega) (by omega) (by omega)]
  unfold num
  omega
end Go.Proofs.YtdhhlcgmkkpldaaGreatDoor
