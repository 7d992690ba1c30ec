/- Several texts of this seat, one behind the other. -/
import Derived.Test.YtknggeplnffegaaGreatDoorXmX
import Derived.Test.YtknggeplnffegaaGreatDoorEnRefH
import Derived.Test.YtknggeplnffegaaGreatDoorCut
import Derived.BigQuiet
/- The document's own answers of layer xml: signs, names, local parts. -/
set_option linter.unusedVariables false
namespace Go.Proofs.YtknggeplnffegaaGreatDoor
open Go.ChangeShapes Go.WideShapes Go.ChangeAt Go.RowKit
open En Xm
/-- a range of bytes goes by a table -/
theorem sgn_at (f : Bool) (c : UInt8) (lo hi : Nat) (h1 : lo ≤ c.toNat) (h2 : c.toNat ≤ hi) (h3 : hi < 256) {b : Bool} (h : ∀ n : Fin 256, lo ≤ n.val → n.val ≤ hi → sgn f (UInt8.ofNat n.val) = b) : sgn f c = b := by
  have := h ⟨c.toNat, by omega⟩ h1 h2
  simp only [UInt8.ofNat_toNat] at this
  exact this
set_option maxRecDepth 100000 in
set_option maxHeartbeats 4000000 in
theorem rsignc_any (c : UInt8) (f : Bool) (w : World) : Calls Tryz.prog 25 #[.int .u8 c.toNat, .bool f] w fun e w' => e = .returned (.bool (sgn f c)) ∧ w = w' := by
  have hc := c.toNat_lt
  rcases (show c.toNat ≤ 44 ∨ c.toNat = 45 ∨ c.toNat = 46 ∨ c.toNat = 47 ∨ (48 ≤ c.toNat ∧ c.toNat ≤ 57) ∨ c.toNat = 58 ∨ (59 ≤ c.toNat ∧ c.toNat ≤ 64) ∨ (65 ≤ c.toNat ∧ c.toNat ≤ 90) ∨ (91 ≤ c.toNat ∧ c.toNat ≤ 94) ∨ c.toNat = 95 ∨ c.toNat = 96 ∨ (97 ≤ c.toNat ∧ c.toNat ≤ 122) ∨ 123 ≤ c.toNat by omega) with h | h | h | h | h | h | h | h | h | h | h | h | h
  · cases f
    · have HR := Lib.hid (show sgn false c = false from sgn_at false c 0 44 (by omega) (by omega) (by omega) (by decide +kernel))
      have g0 : decide (65 ≤ (c.toNat : Int)) = false := by simp; omega
      have g1 : decide (97 ≤ (c.toNat : Int)) = false := by simp; omega
      have g2 : decide (48 ≤ (c.toNat : Int)) = false := by simp; omega
      have g3 : decide ((c.toNat : Int) ≤ 90) = true := by simp; omega
      have g4 : decide ((c.toNat : Int) ≤ 122) = true := by simp; omega
      have g5 : decide ((c.toNat : Int) ≤ 57) = true := by simp; omega
      have g6 : ((c.toNat : Int) == 95) = false := by simp; omega
      have g7 : ((c.toNat : Int) == 45) = false := by simp; omega
      have g8 : ((c.toNat : Int) == 46) = false := by simp; omega
      have g9 : ((c.toNat : Int) == 58) = false := by simp; omega
      clear h hc
      go_enter Tryz.func25, Tryz.ntmps25
      go_wp2
      go_ret
      exact ⟨by rw [HR.out]; rfl, rfl⟩
    · have HR := Lib.hid (show sgn true c = false from sgn_at true c 0 44 (by omega) (by omega) (by omega) (by decide +kernel))
      have g0 : decide (65 ≤ (c.toNat : Int)) = false := by simp; omega
      have g1 : decide (97 ≤ (c.toNat : Int)) = false := by simp; omega
      have g2 : decide (48 ≤ (c.toNat : Int)) = false := by simp; omega
      have g3 : decide ((c.toNat : Int) ≤ 90) = true := by simp; omega
      have g4 : decide ((c.toNat : Int) ≤ 122) = true := by simp; omega
      have g5 : decide ((c.toNat : Int) ≤ 57) = true := by simp; omega
      have g6 : ((c.toNat : Int) == 95) = false := by simp; omega
      have g7 : ((c.toNat : Int) == 45) = false := by simp; omega
      have g8 : ((c.toNat : Int) == 46) = false := by simp; omega
      have g9 : ((c.toNat : Int) == 58) = false := by simp; omega
      clear h hc
      go_enter Tryz.func25, Tryz.ntmps25
      go_wp2
      go_ret
      exact ⟨by rw [HR.out]; rfl, rfl⟩
  · cases f
    · have HR := Lib.hid (show sgn false c = true from sgn_at false c 45 45 (by omega) (by omega) (by omega) (by decide +kernel))
      have g0 : decide (65 ≤ (c.toNat : Int)) = false := by simp; omega
      have g1 : decide (97 ≤ (c.toNat : Int)) = false := by simp; omega
      have g2 : decide (48 ≤ (c.toNat : Int)) = false := by simp; omega
      have g3 : decide ((c.toNat : Int) ≤ 90) = true := by simp; omega
      have g4 : decide ((c.toNat : Int) ≤ 122) = true := by simp; omega
      have g5 : decide ((c.toNat : Int) ≤ 57) = true := by simp; omega
      have g6 : ((c.toNat : Int) == 95) = false := by simp; omega
      have g7 : ((c.toNat : Int) == 45) = true := by simp; omega
      have g8 : ((c.toNat : Int) == 46) = false := by simp; omega
      have g9 : ((c.toNat : Int) == 58) = false := by simp; omega
      clear h hc
      go_enter Tryz.func25, Tryz.ntmps25
      go_wp2
      go_ret
      exact ⟨by rw [HR.out]; rfl, rfl⟩
    · have HR := Lib.hid (show sgn true c = false from sgn_at true c 45 45 (by omega) (by omega) (by omega) (by decide +kernel))
      have g0 : decide (65 ≤ (c.toNat : Int)) = false := by simp; omega
      have g1 : decide (97 ≤ (c.toNat : Int)) = false := by simp; omega
      have g2 : decide (48 ≤ (c.toNat : Int)) = false := by simp; omega
      have g3 : decide ((c.toNat : Int) ≤ 90) = true := by simp; omega
      have g4 : decide ((c.toNat : Int) ≤ 122) = true := by simp; omega
      have g5 : decide ((c.toNat : Int) ≤ 57) = true := by simp; omega
      have g6 : ((c.toNat : Int) == 95) = false := by simp; omega
      have g7 : ((c.toNat : Int) == 45) = true := by simp; omega
      have g8 : ((c.toNat : Int) == 46) = false := by simp; omega
      have g9 : ((c.toNat : Int) == 58) = false := by simp; omega
      clear h hc
      go_enter Tryz.func25, Tryz.ntmps25
      go_wp2
      go_ret
      exact ⟨by rw [HR.out]; rfl, rfl⟩
  · cases f
    · have HR := Lib.hid (show sgn false c = true from sgn_at false c 46 46 (by omega) (by omega) (by omega) (by decide +kernel))
      have g0 : decide (65 ≤ (c.toNat : Int)) = false := by simp; omega
      have g1 : decide (97 ≤ (c.toNat : Int)) = false := by simp; omega
      have g2 : decide (48 ≤ (c.toNat : Int)) = false := by simp; omega
      have g3 : decide ((c.toNat : Int) ≤ 90) = true := by simp; omega
      have g4 : decide ((c.toNat : Int) ≤ 122) = true := by simp; omega
      have g5 : decide ((c.toNat : Int) ≤ 57) = true := by simp; omega
      have g6 : ((c.toNat : Int) == 95) = false := by simp; omega
      have g7 : ((c.toNat : Int) == 45) = false := by simp; omega
      have g8 : ((c.toNat : Int) == 46) = true := by simp; omega
      have g9 : ((c.toNat : Int) == 58) = false := by simp; omega
      clear h hc
      go_enter Tryz.func25, Tryz.ntmps25
      go_wp2
      go_ret
      exact ⟨by rw [HR.out]; rfl, rfl⟩
    · have HR := Lib.hid (show sgn true c = false from sgn_at true c 46 46 (by omega) (by omega) (by omega) (by decide +kernel))
      have g0 : decide (65 ≤ (c.toNat : Int)) = false := by simp; omega
      have g1 : decide (97 ≤ (c.toNat : Int)) = false := by simp; omega
      have g2 : decide (48 ≤ (c.toNat : Int)) = false := by simp; omega
      have g3 : decide ((c.toNat : Int) ≤ 90) = true := by simp; omega
      have g4 : decide ((c.toNat : Int) ≤ 122) = true := by simp; omega
      have g5 : decide ((c.toNat : Int) ≤ 57) = true := by simp; omega
      have g6 : ((c.toNat : Int) == 95) = false := by simp; omega
      have g7 : ((c.toNat : Int) == 45) = false := by simp; omega
      have g8 : ((c.toNat : Int) == 46) = true := by simp; omega
      have g9 : ((c.toNat : Int) == 58) = false := by simp; omega
      clear h hc
      go_enter Tryz.func25, Tryz.ntmps25
      go_wp2
      go_ret
      exact ⟨by rw [HR.out]; rfl, rfl⟩
  · cases f
    · have HR := Lib.hid (show sgn false c = false from sgn_at false c 47 47 (by omega) (by omega) (by omega) (by decide +kernel))
      have g0 : decide (65 ≤ (c.toNat : Int)) = false := by simp; omega
      have g1 : decide (97 ≤ (c.toNat : Int)) = false := by simp; omega
      have g2 : decide (48 ≤ (c.toNat : Int)) = false := by simp; omega
      have g3 : decide ((c.toNat : Int) ≤ 90) = true := by simp; omega
      have g4 : decide ((c.toNat : Int) ≤ 122) = true := by simp; omega
      have g5 : decide ((c.toNat : Int) ≤ 57) = true := by simp; omega
      have g6 : ((c.toNat : Int) == 95) = false := by simp; omega
      have g7 : ((c.toNat : Int) == 45) = false := by simp; omega
      have g8 : ((c.toNat : Int) == 46) = false := by simp; omega
      have g9 : ((c.toNat : Int) == 58) = false := by simp; omega
      clear h hc
      go_enter Tryz.func25, Tryz.ntmps25
      go_wp2
      go_ret
      exact ⟨by rw [HR.out]; rfl, rfl⟩
    · have HR := Lib.hid (show sgn true c = false from sgn_at true c 47 47 (by omega) (by omega) (by omega) (by decide +kernel))
      have g0 : decide (65 ≤ (c.toNat : Int)) = false := by simp; omega
      have g1 : decide (97 ≤ (c.toNat : Int)) = false := by simp; omega
      have g2 : decide (48 ≤ (c.toNat : Int)) = false := by simp; omega
      have g3 : decide ((c.toNat : Int) ≤ 90) = true := by simp; omega
      have g4 : decide ((c.toNat : Int) ≤ 122) = true := by simp; omega
      have g5 : decide ((c.toNat : Int) ≤ 57) = true := by simp; omega
      have g6 : ((c.toNat : Int) == 95) = false := by simp; omega
      have g7 : ((c.toNat : Int) == 45) = false := by simp; omega
      have g8 : ((c.toNat : Int) == 46) = false := by simp; omega
      have g9 : ((c.toNat : Int) == 58) = false := by simp; omega
      clear h hc
      go_enter Tryz.func25, Tryz.ntmps25
      go_wp2
      go_ret
      exact ⟨by rw [HR.out]; rfl, rfl⟩
  · cases f
    · have HR := Lib.hid (show sgn false c = true from sgn_at false c 48 57 (by omega) (by omega) (by omega) (by decide +kernel))
      have g0 : decide (65 ≤ (c.toNat : Int)) = false := by simp; omega
      have g1 : decide (97 ≤ (c.toNat : Int)) = false := by simp; omega
      have g2 : decide (48 ≤ (c.toNat : Int)) = true := by simp; omega
      have g3 : decide ((c.toNat : Int) ≤ 90) = true := by simp; omega
      have g4 : decide ((c.toNat : Int) ≤ 122) = true := by simp; omega
      have g5 : decide ((c.toNat : Int) ≤ 57) = true := by simp; omega
      have g6 : ((c.toNat : Int) == 95) = false := by simp; omega
      have g7 : ((c.toNat : Int) == 45) = false := by simp; omega
      have g8 : ((c.toNat : Int) == 46) = false := by simp; omega
      have g9 : ((c.toNat : Int) == 58) = false := by simp; omega
      clear h hc
      go_enter Tryz.func25, Tryz.ntmps25
      go_wp2
      go_ret
      exact ⟨by rw [HR.out]; rfl, rfl⟩
    · have HR := Lib.hid (show sgn true c = false from sgn_at true c 48 57 (by omega) (by omega) (by omega) (by decide +kernel))
      have g0 : decide (65 ≤ (c.toNat : Int)) = false := by simp; omega
      have g1 : decide (97 ≤ (c.toNat : Int)) = false := by simp; omega
      have g2 : decide (48 ≤ (c.toNat : Int)) = true := by simp; omega
      have g3 : decide ((c.toNat : Int) ≤ 90) = true := by simp; omega
      have g4 : decide ((c.toNat : Int) ≤ 122) = true := by simp; omega
      have g5 : decide ((c.toNat : Int) ≤ 57) = true := by simp; omega
      have g6 : ((c.toNat : Int) == 95) = false := by simp; omega
      have g7 : ((c.toNat : Int) == 45) = false := by simp; omega
      have g8 : ((c.toNat : Int) == 46) = false := by simp; omega
      have g9 : ((c.toNat : Int) == 58) = false := by simp; omega
      clear h hc
      go_enter Tryz.func25, Tryz.ntmps25
      go_wp2
      go_ret
      exact ⟨by rw [HR.out]; rfl, rfl⟩
  · cases f
    · have HR := Lib.hid (show sgn false c = true from sgn_at false c 58 58 (by omega) (by omega) (by omega) (by decide +kernel))
      have g0 : decide (65 ≤ (c.toNat : Int)) = false := by simp; omega
      have g1 : decide (97 ≤ (c.toNat : Int)) = false := by simp; omega
      have g2 : decide (48 ≤ (c.toNat : Int)) = true := by simp; omega
      have g3 : decide ((c.toNat : Int) ≤ 90) = true := by simp; omega
      have g4 : decide ((c.toNat : Int) ≤ 122) = true := by simp; omega
      have g5 : decide ((c.toNat : Int) ≤ 57) = false := by simp; omega
      have g6 : ((c.toNat : Int) == 95) = false := by simp; omega
      have g7 : ((c.toNat : Int) == 45) = false := by simp; omega
      have g8 : ((c.toNat : Int) == 46) = false := by simp; omega
      have g9 : ((c.toNat : Int) == 58) = true := by simp; omega
      clear h hc
      go_enter Tryz.func25, Tryz.ntmps25
      go_wp2
      go_ret
      exact ⟨by rw [HR.out]; rfl, rfl⟩
    · have HR := Lib.hid (show sgn true c = false from sgn_at true c 58 58 (by omega) (by omega) (by omega) (by decide +kernel))
      have g0 : decide (65 ≤ (c.toNat : Int)) = false := by simp; omega
      have g1 : decide (97 ≤ (c.toNat : Int)) = false := by simp; omega
      have g2 : decide (48 ≤ (c.toNat : Int)) = true := by simp; omega
      have g3 : decide ((c.toNat : Int) ≤ 90) = true := by simp; omega
      have g4 : decide ((c.toNat : Int) ≤ 122) = true := by simp; omega
      have g5 : decide ((c.toNat : Int) ≤ 57) = false := by simp; omega
      have g6 : ((c.toNat : Int) == 95) = false := by simp; omega
      have g7 : ((c.toNat : Int) == 45) = false := by simp; omega
      have g8 : ((c.toNat : Int) == 46) = false := by simp; omega
      have g9 : ((c.toNat : Int) == 58) = true := by simp; omega
      clear h hc
      go_enter Tryz.func25, Tryz.ntmps25
      go_wp2
      go_ret
      exact ⟨by rw [HR.out]; rfl, rfl⟩
  · cases f
    · have HR := Lib.hid (show sgn false c = false from sgn_at false c 59 64 (by omega) (by omega) (by omega) (by decide +kernel))
      have g0 : decide (65 ≤ (c.toNat : Int)) = false := by simp; omega
      have g1 : decide (97 ≤ (c.toNat : Int)) = false := by simp; omega
      have g2 : decide (48 ≤ (c.toNat : Int)) = true := by simp; omega
      have g3 : decide ((c.toNat : Int) ≤ 90) = true := by simp; omega
      have g4 : decide ((c.toNat : Int) ≤ 122) = true := by simp; omega
      have g5 : decide ((c.toNat : Int) ≤ 57) = false := by simp; omega
      have g6 : ((c.toNat : Int) == 95) = false := by simp; omega
      have g7 : ((c.toNat : Int) == 45) = false := by simp; omega
      have g8 : ((c.toNat : Int) == 46) = false := by simp; omega
      have g9 : ((c.toNat : Int) == 58) = false := by simp; omega
      clear h hc
      go_enter Tryz.func25, Tryz.ntmps25
      go_wp2
      go_ret
      exact ⟨by rw [HR.out]; rfl, rfl⟩
    · have HR := Lib.hid (show sgn true c = false from sgn_at true c 59 64 (by omega) (by omega) (by omega) (by decide +kernel))
      have g0 : decide (65 ≤ (c.toNat : Int)) = false := by simp; omega
      have g1 : decide (97 ≤ (c.toNat : Int)) = false := by simp; omega
      have g2 : decide (48 ≤ (c.toNat : Int)) = true := by simp; omega
      have g3 : decide ((c.toNat : Int) ≤ 90) = true := by simp; omega
      have g4 : decide ((c.toNat : Int) ≤ 122) = true := by simp; omega
      have g5 : decide ((c.toNat : Int) ≤ 57) = false := by simp; omega
      have g6 : ((c.toNat : Int) == 95) = false := by simp; omega
      have g7 : ((c.toNat : Int) == 45) = false := by simp; omega
      have g8 : ((c.toNat : Int) == 46) = false := by simp; omega
      have g9 : ((c.toNat : Int) == 58) = false := by simp; omega
      clear h hc
      go_enter Tryz.func25, Tryz.ntmps25
      go_wp2
      go_ret
      exact ⟨by rw [HR.out]; rfl, rfl⟩
  · cases f
    · have HR := Lib.hid (show sgn false c = true from sgn_at false c 65 90 (by omega) (by omega) (by omega) (by decide +kernel))
      have g0 : decide (65 ≤ (c.toNat : Int)) = true := by simp; omega
      have g1 : decide (97 ≤ (c.toNat : Int)) = false := by simp; omega
      have g2 : decide (48 ≤ (c.toNat : Int)) = true := by simp; omega
      have g3 : decide ((c.toNat : Int) ≤ 90) = true := by simp; omega
      have g4 : decide ((c.toNat : Int) ≤ 122) = true := by simp; omega
      have g5 : decide ((c.toNat : Int) ≤ 57) = false := by simp; omega
      have g6 : ((c.toNat : Int) == 95) = false := by simp; omega
      have g7 : ((c.toNat : Int) == 45) = false := by simp; omega
      have g8 : ((c.toNat : Int) == 46) = false := by simp; omega
      have g9 : ((c.toNat : Int) == 58) = false := by simp; omega
      clear h hc
      go_enter Tryz.func25, Tryz.ntmps25
      go_wp2
      go_ret
      exact ⟨by rw [HR.out]; rfl, rfl⟩
    · have HR := Lib.hid (show sgn true c = true from sgn_at true c 65 90 (by omega) (by omega) (by omega) (by decide +kernel))
      have g0 : decide (65 ≤ (c.toNat : Int)) = true := by simp; omega
      have g1 : decide (97 ≤ (c.toNat : Int)) = false := by simp; omega
      have g2 : decide (48 ≤ (c.toNat : Int)) = true := by simp; omega
      have g3 : decide ((c.toNat : Int) ≤ 90) = true := by simp; omega
      have g4 : decide ((c.toNat : Int) ≤ 122) = true := by simp; omega
      have g5 : decide ((c.toNat : Int) ≤ 57) = false := by simp; omega
      have g6 : ((c.toNat : Int) == 95) = false := by simp; omega
      have g7 : ((c.toNat : Int) == 45) = false := by simp; omega
      have g8 : ((c.toNat : Int) == 46) = false := by simp; omega
      have g9 : ((c.toNat : Int) == 58) = false := by simp; omega
      clear h hc
      go_enter Tryz.func25, Tryz.ntmps25
      go_wp2
      go_ret
      exact ⟨by rw [HR.out]; rfl, rfl⟩
  · cases f
    · have HR := Lib.hid (show sgn false c = false from sgn_at false c 91 94 (by omega) (by omega) (by omega) (by decide +kernel))
      have g0 : decide (65 ≤ (c.toNat : Int)) = true := by simp; omega
      have g1 : decide (97 ≤ (c.toNat : Int)) = false := by simp; omega
      have g2 : decide (48 ≤ (c.toNat : Int)) = true := by simp; omega
      have g3 : decide ((c.toNat : Int) ≤ 90) = false := by simp; omega
      have g4 : decide ((c.toNat : Int) ≤ 122) = true := by simp; omega
      have g5 : decide ((c.toNat : Int) ≤ 57) = false := by simp; omega
      have g6 : ((c.toNat : Int) == 95) = false := by simp; omega
      have g7 : ((c.toNat : Int) == 45) = false := by simp; omega
      have g8 : ((c.toNat : Int) == 46) = false := by simp; omega
      have g9 : ((c.toNat : Int) == 58) = false := by simp; omega
      clear h hc
      go_enter Tryz.func25, Tryz.ntmps25
      go_wp2
      go_ret
      exact ⟨by rw [HR.out]; rfl, rfl⟩
    · have HR := Lib.hid (show sgn true c = false from sgn_at true c 91 94 (by omega) (by omega) (by omega) (by decide +kernel))
      have g0 : decide (65 ≤ (c.toNat : Int)) = true := by simp; omega
      have g1 : decide (97 ≤ (c.toNat : Int)) = false := by simp; omega
      have g2 : decide (48 ≤ (c.toNat : Int)) = true := by simp; omega
      have g3 : decide ((c.toNat : Int) ≤ 90) = false := by simp; omega
      have g4 : decide ((c.toNat : Int) ≤ 122) = true := by simp; omega
      have g5 : decide ((c.toNat : Int) ≤ 57) = false := by simp; omega
      have g6 : ((c.toNat : Int) == 95) = false := by simp; omega
      have g7 : ((c.toNat : Int) == 45) = false := by simp; omega
      have g8 : ((c.toNat : Int) == 46) = false := by simp; omega
      have g9 : ((c.toNat : Int) == 58) = false := by simp; omega
      clear h hc
      go_enter Tryz.func25, Tryz.ntmps25
      go_wp2
      go_ret
      exact ⟨by rw [HR.out]; rfl, rfl⟩
  · cases f
    · have HR := Lib.hid (show sgn false c = true from sgn_at false c 95 95 (by omega) (by omega) (by omega) (by decide +kernel))
      have g0 : decide (65 ≤ (c.toNat : Int)) = true := by simp; omega
      have g1 : decide (97 ≤ (c.toNat : Int)) = false := by simp; omega
      have g2 : decide (48 ≤ (c.toNat : Int)) = true := by simp; omega
      have g3 : decide ((c.toNat : Int) ≤ 90) = false := by simp; omega
      have g4 : decide ((c.toNat : Int) ≤ 122) = true := by simp; omega
      have g5 : decide ((c.toNat : Int) ≤ 57) = false := by simp; omega
      have g6 : ((c.toNat : Int) == 95) = true := by simp; omega
      have g7 : ((c.toNat : Int) == 45) = false := by simp; omega
      have g8 : ((c.toNat : Int) == 46) = false := by simp; omega
      have g9 : ((c.toNat : Int) == 58) = false := by simp; omega
      clear h hc
      go_enter Tryz.func25, Tryz.ntmps25
      go_wp2
      go_ret
      exact ⟨by rw [HR.out]; rfl, rfl⟩
    · have HR := Lib.hid (show sgn true c = true from sgn_at true c 95 95 (by omega) (by omega) (by omega) (by decide +kernel))
      have g0 : decide (65 ≤ (c.toNat : Int)) = true := by simp; omega
      have g1 : decide (97 ≤ (c.toNat : Int)) = false := by simp; omega
      have g2 : decide (48 ≤ (c.toNat : Int)) = true := by simp; omega
      have g3 : decide ((c.toNat : Int) ≤ 90) = false := by simp; omega
      have g4 : decide ((c.toNat : Int) ≤ 122) = true := by simp; omega
      have g5 : decide ((c.toNat : Int) ≤ 57) = false := by simp; omega
      have g6 : ((c.toNat : Int) == 95) = true := by simp; omega
      have g7 : ((c.toNat : Int) == 45) = false := by simp; omega
      have g8 : ((c.toNat : Int) == 46) = false := by simp; omega
      have g9 : ((c.toNat : Int) == 58) = false := by simp; omega
      clear h hc
      go_enter Tryz.func25, Tryz.ntmps25
      go_wp2
      go_ret
      exact ⟨by rw [HR.out]; rfl, rfl⟩
  · cases f
    · have HR := Lib.hid (show sgn false c = false from sgn_at false c 96 96 (by omega) (by omega) (by omega) (by decide +kernel))
      have g0 : decide (65 ≤ (c.toNat : Int)) = true := by simp; omega
      have g1 : decide (97 ≤ (c.toNat : Int)) = false := by simp; omega
      have g2 : decide (48 ≤ (c.toNat : Int)) = true := by simp; omega
      have g3 : decide ((c.toNat : Int) ≤ 90) = false := by simp; omega
      have g4 : decide ((c.toNat : Int) ≤ 122) = true := by simp; omega
      have g5 : decide ((c.toNat : Int) ≤ 57) = false := by simp; omega
      have g6 : ((c.toNat : Int) == 95) = false := by simp; omega
      have g7 : ((c.toNat : Int) == 45) = false := by simp; omega
      have g8 : ((c.toNat : Int) == 46) = false := by simp; omega
      have g9 : ((c.toNat : Int) == 58) = false := by simp; omega
      clear h hc
      go_enter Tryz.func25, Tryz.ntmps25
      go_wp2
      go_ret
      exact ⟨by rw [HR.out]; rfl, rfl⟩
    · have HR := Lib.hid (show sgn true c = false from sgn_at true c 96 96 (by omega) (by omega) (by omega) (by decide +kernel))
      have g0 : decide (65 ≤ (c.toNat : Int)) = true := by simp; omega
      have g1 : decide (97 ≤ (c.toNat : Int)) = false := by simp; omega
      have g2 : decide (48 ≤ (c.toNat : Int)) = true := by simp; omega
      have g3 : decide ((c.toNat : Int) ≤ 90) = false := by simp; omega
      have g4 : decide ((c.toNat : Int) ≤ 122) = true := by simp; omega
      have g5 : decide ((c.toNat : Int) ≤ 57) = false := by simp; omega
      have g6 : ((c.toNat : Int) == 95) = false := by simp; omega
      have g7 : ((c.toNat : Int) == 45) = false := by simp; omega
      have g8 : ((c.toNat : Int) == 46) = false := by simp; omega
      have g9 : ((c.toNat : Int) == 58) = false := by simp; omega
      clear h hc
      go_enter Tryz.func25, Tryz.ntmps25
      go_wp2
      go_ret
      exact ⟨by rw [HR.out]; rfl, rfl⟩
  · cases f
    · have HR := Lib.hid (show sgn false c = true from sgn_at false c 97 122 (by omega) (by omega) (by omega) (by decide +kernel))
      have g0 : decide (65 ≤ (c.toNat : Int)) = true := by simp; omega
      have g1 : decide (97 ≤ (c.toNat : Int)) = true := by simp; omega
      have g2 : decide (48 ≤ (c.toNat : Int)) = true := by simp; omega
      have g3 : decide ((c.toNat : Int) ≤ 90) = false := by simp; omega
      have g4 : decide ((c.toNat : Int) ≤ 122) = true := by simp; omega
      have g5 : decide ((c.toNat : Int) ≤ 57) = false := by simp; omega
      have g6 : ((c.toNat : Int) == 95) = false := by simp; omega
      have g7 : ((c.toNat : Int) == 45) = false := by simp; omega
      have g8 : ((c.toNat : Int) == 46) = false := by simp; omega
      have g9 : ((c.toNat : Int) == 58) = false := by simp; omega
      clear h hc
      go_enter Tryz.func25, Tryz.ntmps25
      go_wp2
      go_ret
      exact ⟨by rw [HR.out]; rfl, rfl⟩
    · have HR := Lib.hid (show sgn true c = true from sgn_at true c 97 122 (by omega) (by omega) (by omega) (by decide +kernel))
      have g0 : decide (65 ≤ (c.toNat : Int)) = true := by simp; omega
      have g1 : decide (97 ≤ (c.toNat : Int)) = true := by simp; omega
      have g2 : decide (48 ≤ (c.toNat : Int)) = true := by simp; omega
      have g3 : decide ((c.toNat : Int) ≤ 90) = false := by simp; omega
      have g4 : decide ((c.toNat : Int) ≤ 122) = true := by simp; omega
      have g5 : decide ((c.toNat : Int) ≤ 57) = false := by simp; omega
      have g6 : ((c.toNat : Int) == 95) = false := by simp; omega
      have g7 : ((c.toNat : Int) == 45) = false := by simp; omega
      have g8 : ((c.toNat : Int) == 46) = false := by simp; omega
      have g9 : ((c.toNat : Int) == 58) = false := by simp; omega
      clear h hc
      go_enter Tryz.func25, Tryz.ntmps25
      go_wp2
      go_ret
      exact ⟨by rw [HR.out]; rfl, rfl⟩
  · cases f
    · have HR := Lib.hid (show sgn false c = false from sgn_at false c 123 255 (by omega) (by omega) (by omega) (by decide +kernel))
      have g0 : decide (65 ≤ (c.toNat : Int)) = true := by simp; omega
      have g1 : decide (97 ≤ (c.toNat : Int)) = true := by simp; omega
      have g2 : decide (48 ≤ (c.toNat : Int)) = true := by simp; omega
      have g3 : decide ((c.toNat : Int) ≤ 90) = false := by simp; omega
      have g4 : decide ((c.toNat : Int) ≤ 122) = false := by simp; omega
      have g5 : decide ((c.toNat : Int) ≤ 57) = false := by simp; omega
      have g6 : ((c.toNat : Int) == 95) = false := by simp; omega
      have g7 : ((c.toNat : Int) == 45) = false := by simp; omega
      have g8 : ((c.toNat : Int) == 46) = false := by simp; omega
      have g9 : ((c.toNat : Int) == 58) = false := by simp; omega
      clear h hc
      go_enter Tryz.func25, Tryz.ntmps25
      go_wp2
      go_ret
      exact ⟨by rw [HR.out]; rfl, rfl⟩
    · have HR := Lib.hid (show sgn true c = false from sgn_at true c 123 255 (by omega) (by omega) (by omega) (by decide +kernel))
      have g0 : decide (65 ≤ (c.toNat : Int)) = true := by simp; omega
      have g1 : decide (97 ≤ (c.toNat : Int)) = true := by simp; omega
      have g2 : decide (48 ≤ (c.toNat : Int)) = true := by simp; omega
      have g3 : decide ((c.toNat : Int) ≤ 90) = false := by simp; omega
      have g4 : decide ((c.toNat : Int) ≤ 122) = false := by simp; omega
      have g5 : decide ((c.toNat : Int) ≤ 57) = false := by simp; omega
      have g6 : ((c.toNat : Int) == 95) = false := by simp; omega
      have g7 : ((c.toNat : Int) == 45) = false := by simp; omega
      have g8 : ((c.toNat : Int) == 46) = false := by simp; omega
      have g9 : ((c.toNat : Int) == 58) = false := by simp; omega
      clear h hc
      go_enter Tryz.func25, Tryz.ntmps25
      go_wp2
      go_ret
      exact ⟨by rw [HR.out]; rfl, rfl⟩
theorem allN_take {s : B} (h : allN s = true) (k : Nat) : allN (s.take k) = true := by
  cases s with
  | nil => simp [allN]
  | cons c r =>
    cases k with
    | zero => rfl
    | succ k =>
      unfold allN at h
      rw [Bool.and_eq_true] at h
      rw [List.take_succ_cons]
      unfold allN
      rw [Bool.and_eq_true]
      exact ⟨h.1, List.all_eq_true.2 (fun x hx => List.all_eq_true.1 h.2 x (List.mem_of_mem_take hx))⟩
theorem allN_snoc (a : B) (c : UInt8) : allN (a ++ [c]) = (allN a && sgn a.isEmpty c) := by
  cases a with
  | nil => simp [allN]
  | cons d a => simp [allN, Bool.and_assoc]
theorem take_snoc {s : B} {k : Nat} {c : UInt8} (h : s[k]? = some c) : s.take (k + 1) = s.take k ++ [c] := by rw [List.take_add_one, h]; rfl
theorem empty_take {s : B} {k : Nat} (h : k < s.length) : (s.take k).isEmpty = ((k : Int) == 0) := by
  cases k with
  | zero => simp
  | succ k =>
    cases s with
    | nil => simp at h
    | cons c s => simp; omega
set_option maxRecDepth 100000 in
theorem rname_any (s : B) (w : World) (hl : s.length ≤ 1000000) : Calls Tryz.prog 16 #[.string ⟨s.toArray⟩] w fun e w' => e = .returned (.bool (isN s)) ∧ w = w' := by
  go_enter Tryz.func16, Tryz.ntmps16
  go_wp2_with fail
  go_loopw [3] (fun i wr => wr = w ∧ ∃ k : Nat, k ≤ s.length ∧ i = .int .i64 k ∧ Hid (allN (s.take k) = true)) (fun i _ => s.length - (intOf i).toNat)
  case atStart => exact ⟨rfl, 0, Nat.zero_le _, rfl, Lib.hid rfl⟩
  case round =>
    obtain ⟨rfl, k, hk, rfl, hA⟩ := hrel
    by_cases hlt : k < s.length
    · obtain ⟨a, ha⟩ : ∃ a, s[k]? = some a := ⟨_, List.getElem?_eq_getElem hlt⟩
      have hat := byte_at s k a ha
      have HS := Lib.hid (show allN (s.take (k + 1)) = sgn ((k : Int) == 0) a by rw [take_snoc ha, allN_snoc, hA.out, empty_take hlt]; rfl)
      clear ha
      go_wp2_with fail
      refine (rsignc_any a _ _).mono ?_
      rintro e w1 ⟨rfl, rfl⟩
      cases hs : sgn ((k : Int) == 0) a with
      | true =>
        rw [hs] at HS
        go_wp2
        go_roundw
        case rel => exact ⟨trivial, k + 1, hlt, by go_num, HS⟩
        case measure => simp [intOf]; omega
      | false =>
        rw [hs] at HS
        have HR := Lib.hid (show isN s = false by
          rw [Bool.eq_false_iff]
          intro q
          unfold isN at q
          rw [Bool.and_eq_true] at q
          have := allN_take q.2 (k + 1)
          rw [HS.out] at this; cases this)
        go_wp2
        go_ret
        exact ⟨by rw [HR.out]; rfl, rfl⟩
    · have h1 : k = s.length := by omega
      have hall : allN s = true := by have := hA.out; rw [h1, List.take_length] at this; exact this
      have HR := Lib.hid (show isN s = (decide (1 ≤ (s.length : Int)) && decide ((s.length : Int) ≤ 60)) by
        unfold isN
        rw [hall, Bool.and_true]
        congr 1
        · rw [decide_eq_decide]; omega
        · rw [decide_eq_decide]; omega)
      clear hall hA
      subst h1
      by_cases p1 : 1 ≤ (s.length : Int)
      · by_cases p2 : (s.length : Int) ≤ 60
        · have HR1 := Lib.hid (show isN s = true by rw [HR.out]; simp [p1, p2])
          clear HR
          go_wp2
          go_ret
          exact ⟨by rw [HR1.out]; rfl, rfl⟩
        · have HR1 := Lib.hid (show isN s = false by rw [HR.out]; simp [p2])
          clear HR
          go_wp2
          go_ret
          exact ⟨by rw [HR1.out]; rfl, rfl⟩
      · have HR1 := Lib.hid (show isN s = false by rw [HR.out]; simp [p1])
        clear HR
        go_wp2
        go_ret
        exact ⟨by rw [HR1.out]; rfl, rfl⟩
set_option maxRecDepth 100000 in
theorem rlocal_any (s : B) (w : World) (hl : s.length ≤ 1000000) : Calls Tryz.prog 19 #[.string ⟨s.toArray⟩] w fun e w' => e = .returned (.string ⟨(loc s).toArray⟩) ∧ w = w' := by
  go_enter Tryz.func19, Tryz.ntmps19
  go_wp2_with fail
  go_loopw [3, 4] (fun o i wr => wr = w ∧ ∃ (k : Nat) (cur : B), k ≤ s.length ∧ i = .int .i64 k ∧ o = .string ⟨cur.toArray⟩ ∧ Hid (loc s = locF cur (s.drop k))) (fun _ i _ => s.length - (intOf i).toNat)
  case atStart => exact ⟨rfl, 0, s, Nat.zero_le _, rfl, rfl, Lib.hid rfl⟩
  case round =>
    obtain ⟨rfl, k, cur, hk, rfl, rfl, hA⟩ := hrel
    by_cases hlt : k < s.length
    · obtain ⟨a, ha⟩ : ∃ a, s[k]? = some a := ⟨_, List.getElem?_eq_getElem hlt⟩
      have hat := byte_at s k a ha
      have hd : s.drop k = a :: s.drop (k + 1) := by
        rw [List.drop_eq_getElem_cons hlt]
        congr 1
        have := (List.getElem?_eq_some_iff.1 ha).2; exact this
      have hsl := cut_from s ((k : Int) + 1) (k + 1) (by omega) hlt
      by_cases h58 : (a.toNat : Int) = 58
      · have HN := Lib.hid (show loc s = locF (s.drop (k + 1)) (s.drop (k + 1)) by
          rw [hA.out, hd, locF, if_pos (show a = 58 from u8_eq h58)])
        have gb : ((a.toNat : Int) == 58) = true := beq_iff_eq.2 h58
        clear h58 hd ha
        go_wp2
        go_roundw
        case rel => exact ⟨trivial, k + 1, _, hlt, by go_num, rfl, HN⟩
        case measure => simp [intOf]; omega
      · have HN := Lib.hid (show loc s = locF cur (s.drop (k + 1)) by
          rw [hA.out, hd, locF, if_neg (fun e => h58 (by rw [e]; rfl))])
        have gb : ((a.toNat : Int) == 58) = false := beq_eq_false_iff_ne.2 h58
        clear h58 hd ha
        go_wp2
        go_roundw
        case rel => exact ⟨trivial, k + 1, _, hlt, by go_num, rfl, HN⟩
        case measure => simp [intOf]; omega
    · have HR := Lib.hid (show loc s = cur by rw [hA.out, List.drop_eq_nil_of_le (by omega)]; rfl)
      go_wp2
      go_ret
      exact ⟨by rw [HR.out]; rfl, rfl⟩
end Go.Proofs.YtknggeplnffegaaGreatDoor
/- The document's own answers of layer xml: its reader's block, and what reads and moves it. -/
set_option linter.unusedVariables false
namespace Go.Proofs.YtknggeplnffegaaGreatDoor
open Go.ChangeShapes Go.WideShapes Go.ChangeAt Go.RowKit
open En Xm
/-- a call turns one block alone of what lay -/
structure Ob (b : Nat) (w w' : World) : Prop where
  os : w'.os = w.os
  tape : w'.tape = w.tape
  output : w'.output = w.output
  size : w.heap.size ≤ w'.heap.size
  block : ∀ k, k < w.heap.size → k ≠ b → w'.heap[k]? = w.heap[k]?
theorem Ob.refl (b : Nat) (w : World) : Ob b w w := ⟨rfl, rfl, rfl, Nat.le_refl _, fun _ _ _ => rfl⟩
theorem Ob.trans {b : Nat} {w x y : World} (h : Ob b w x) (k : Ob b x y) : Ob b w y :=
  ⟨k.os.trans h.os, k.tape.trans h.tape, k.output.trans h.output, Nat.le_trans h.size k.size, fun j hj hb => (k.block j (Nat.lt_of_lt_of_le hj h.size) hb).trans (h.block j hj hb)⟩
theorem Ob.kept {b : Nat} {w x y : World} (h : Ob b w x) (k : Kept x y) : Ob b w y :=
  h.trans ⟨k.os, k.tape, k.output, k.size, fun j hj _ => k.block j hj⟩
theorem Ob.drewN {b : Nat} {w x : World} (h : Ob b w x) (n : Nat) : Ob b w (x.drewN n) := h.kept ((Kept.refl x).drewN n)
theorem Ob.set {b : Nat} {w x : World} (h : Ob b w x) (j : Nat) (v : Value) : Ob b w (x.setCell ⟨b, j, none⟩ v) :=
  h.trans ⟨rfl, rfl, rfl, by simp [World.setCell], fun k hk hb => Below.heap_setCell _ _ _ _ hb⟩
theorem Ob.below {b B : Nat} {w w' : World} (h : Ob b w w') (hB : B ≤ b) (hw : B ≤ w.heap.size) : Below B w w' := ⟨h.os, h.tape, h.output, h.size, fun k hk => h.block k (by omega) (by omega)⟩
abbrev sV (s : B) : Value := .string ⟨s.toArray⟩
abbrev iV (n : Int) : Value := .int .i64 n
/-- the reader's block -/
def Rd (b : Nat) (s : B) (at0 : Nat) (ov : Value) (n : Nat) (lv : Value) (e : Int) (w : World) : Prop :=
  w.heap[b]? = some (.cells #[sV s, iV at0, ov, iV n, lv, iV e] 48 (0, 0))
theorem Rd.lt {b : Nat} {s : B} {at0 : Nat} {ov : Value} {n : Nat} {lv : Value} {e : Int} {w : World} (h : Rd b s at0 ov n lv e w) : b < w.heap.size := (Array.getElem?_eq_some_iff.1 h).1
theorem Rd.cs {b : Nat} {s : B} {at0 : Nat} {ov : Value} {n : Nat} {lv : Value} {e : Int} {w : World} (h : Rd b s at0 ov n lv e w) :
    w.cell? ⟨b, 0, none⟩ = some (sV s) ∧ w.cell? ⟨b, 1, none⟩ = some (iV at0) ∧ w.cell? ⟨b, 2, none⟩ = some ov ∧ w.cell? ⟨b, 3, none⟩ = some (iV n) ∧ w.cell? ⟨b, 4, none⟩ = some lv ∧ w.cell? ⟨b, 5, none⟩ = some (iV e) := by
  unfold Rd at h
  simp [World.cell?, h]
theorem Rd.fz {b : Nat} {s : B} {at0 : Nat} {ov : Value} {n : Nat} {lv : Value} {e : Int} {w : World} (h : Rd b s at0 ov n lv e w) (j : Nat) : w.frozen? ⟨b, j, none⟩ = false := Lib.frozen_of_heap h j
theorem Rd.kept {b : Nat} {s : B} {at0 : Nat} {ov : Value} {n : Nat} {lv : Value} {e : Int} {w w' : World} (h : Rd b s at0 ov n lv e w) (k : Kept w w') : Rd b s at0 ov n lv e w' := (k.block b h.lt).trans h
theorem Rd.setAt {b : Nat} {s : B} {at0 : Nat} {ov : Value} {n : Nat} {lv : Value} {e : Int} {w : World} (h : Rd b s at0 ov n lv e w) (k : Nat) : Rd b s k ov n lv e (w.setCell ⟨b, 1, none⟩ (iV k)) := by
  unfold Rd at h ⊢
  simp [World.setCell, Array.getElem?_modify, h]
theorem Rd.setO {b : Nat} {s : B} {at0 : Nat} {ov : Value} {n : Nat} {lv : Value} {e : Int} {w : World} (h : Rd b s at0 ov n lv e w) (v : Value) : Rd b s at0 v n lv e (w.setCell ⟨b, 2, none⟩ v) := by
  unfold Rd at h ⊢
  simp [World.setCell, Array.getElem?_modify, h]
theorem Rd.setN {b : Nat} {s : B} {at0 : Nat} {ov : Value} {n : Nat} {lv : Value} {e : Int} {w : World} (h : Rd b s at0 ov n lv e w) (k : Nat) : Rd b s at0 ov k lv e (w.setCell ⟨b, 3, none⟩ (iV k)) := by
  unfold Rd at h ⊢
  simp [World.setCell, Array.getElem?_modify, h]
theorem Rd.setL {b : Nat} {s : B} {at0 : Nat} {ov : Value} {n : Nat} {lv : Value} {e : Int} {w : World} (h : Rd b s at0 ov n lv e w) (v : Value) : Rd b s at0 ov n v e (w.setCell ⟨b, 4, none⟩ v) := by
  unfold Rd at h ⊢
  simp [World.setCell, Array.getElem?_modify, h]
theorem Rd.setE {b : Nat} {s : B} {at0 : Nat} {ov : Value} {n : Nat} {lv : Value} {e : Int} {w : World} (h : Rd b s at0 ov n lv e w) (k : Int) : Rd b s at0 ov n lv k (w.setCell ⟨b, 5, none⟩ (iV k)) := by
  unfold Rd at h ⊢
  simp [World.setCell, Array.getElem?_modify, h]
abbrev pV (b : Nat) : Value := .pointer (some ⟨b, 0, none⟩)
/-- the first error counts -/
def er1 (e e' : Int) : Int := if e = 0 then e' else e
theorem rfail_any (b : Nat) (s : B) (at0 : Nat) (ov : Value) (n : Nat) (lv : Value) (e e' : Int) (w : World) (h : Rd b s at0 ov n lv e w) :
    Calls Tryz.prog 38 #[pV b, iV e'] w fun r w' => r = .returned (.tuple #[]) ∧ Rd b s at0 ov n lv (er1 e e') w' ∧ Ob b w w' := by
  obtain ⟨c0, c1, c2, c3, c4, c5⟩ := h.cs
  have f5 := h.fz 5
  by_cases he : e = 0
  · have HE := Lib.hid (h.setE e')
    have HO := Lib.hid ((Ob.refl b w).set 5 (iV e'))
    have h1 : er1 e e' = e' := by unfold er1; rw [if_pos he]
    subst he
    go_enter Tryz.func38, Tryz.ntmps38
    go_wp2
    go_end0
    exact ⟨rfl, by rw [h1]; exact HE.out, HO.out⟩
  · have b0 : (e == 0) = false := by simp; exact he
    have h1 : er1 e e' = e := by unfold er1; rw [if_neg he]
    have HE := Lib.hid h
    clear he h
    go_enter Tryz.func38, Tryz.ntmps38
    go_wp2
    go_end0
    exact ⟨rfl, by rw [h1]; exact HE.out, Ob.refl b w⟩
theorem begins_at {s p : B} {at0 : Nat} (h : at0 ≤ s.length) : p.isPrefixOf (s.drop at0) = (decide ((p.length : Int) ≤ s.length - at0) && decide ((s.take (at0 + p.length)).drop at0 = p)) := by
  have e1 : (s.take (at0 + p.length)).drop at0 = (s.drop at0).take p.length := by rw [List.drop_take, Nat.add_sub_cancel_left]
  rw [e1, Bool.eq_iff_iff, List.isPrefixOf_iff_prefix, Bool.and_eq_true, decide_eq_true_eq, decide_eq_true_eq]
  constructor
  · intro q
    have := q.length_le
    rw [List.length_drop] at this
    refine ⟨by omega, ?_⟩
    obtain ⟨t, ht⟩ := q
    rw [← ht]; simp
  · rintro ⟨_, q⟩
    exact ⟨(s.drop at0).drop p.length, by conv => lhs; lhs; rw [← q]
                                          exact List.take_append_drop _ _⟩
theorem ret_bool' {a b : Bool} (h : a = b) : Ending.returned (.bool a) = .returned (.bool b) := by rw [h]
set_option maxRecDepth 100000 in
set_option maxHeartbeats 2000000 in
theorem rbegins_any (b : Nat) (s p : B) (at0 : Nat) (ov : Value) (n : Nat) (lv : Value) (e : Int) (w : World) (h : Rd b s at0 ov n lv e w) (ha : at0 ≤ s.length) (hs : s.length ≤ 1000000) (hp : p.length ≤ 1000) :
    Calls Tryz.prog 35 #[pV b, sV p] w fun r w' => r = .returned (.bool (p.isPrefixOf (s.drop at0))) ∧ Kept w w' := by
  obtain ⟨c0, c1, c2, c3, c4, c5⟩ := h.cs
  have HB := Lib.hid (begins_at (p := p) ha)
  clear h
  by_cases q : (p.length : Int) ≤ s.length - at0
  · have hd : decide ((p.length : Int) ≤ s.length - at0) = true := decide_eq_true q
    have hsl : ∀ W : World, (Instr.slice 9 (sV s) (some (iV at0)) (some (iV ((at0 : Int) + p.length))) none).run Tryz.prog W = .ok (sV ((s.take (at0 + p.length)).drop at0)) W := fun W => by
      have := cut_both s at0 (at0 + p.length) (by omega) (by omega) W
      rw [show ((at0 + p.length : Nat) : Int) = (at0 : Int) + p.length by omega] at this
      exact this
    have HB2 := Lib.hid (show p.isPrefixOf (s.drop at0) = decide ((s.take (at0 + p.length)).drop at0 = p) by rw [HB.out, hd, Bool.true_and])
    clear HB
    generalize (s.take (at0 + p.length)).drop at0 = g at *
    go_enter Tryz.func35, Tryz.ntmps35
    go_upto_region 1 with (fail)
    go_quiet (fail)
    go_wp2
    go_ret
    exact ⟨ret_bool' (by rw [HB2.out]; by_cases h : g = p <;> simp [h]), (Kept.refl w).drewN _⟩
  · have hd : decide ((p.length : Int) ≤ s.length - at0) = false := decide_eq_false q
    have HB2 := Lib.hid (show p.isPrefixOf (s.drop at0) = false by rw [HB.out, hd]; rfl)
    clear HB
    go_enter Tryz.func35, Tryz.ntmps35
    go_upto_region 1 with (fail)
    go_quiet (fail)
    go_wp2
    go_ret
    exact ⟨ret_bool' (by rw [HB2.out]), (Kept.refl w).drewN _⟩
end Go.Proofs.YtknggeplnffegaaGreatDoor
/- The document's own answers of layer xml: what its reader takes: up to a text, spaces, a name. -/
set_option linter.unusedVariables false
namespace Go.Proofs.YtknggeplnffegaaGreatDoor
open Go.ChangeShapes Go.WideShapes Go.ChangeAt Go.RowKit
open En Xm
theorem quiet_eq {f : FuncId} {args : Array Value} {w : World} {n : Nat} {v : Value} (h : Calls Tryz.prog f args (w.drewN n) fun e w' => e = .returned v ∧ w.drewN n = w') : Calls Tryz.prog f args (w.drewN n) fun e w'' => e = .returned v ∧ ∃ m, w'' = w.drewN m :=
  h.mono fun e w'' h => ⟨h.1, n, h.2.symm⟩
theorem upt_short {p r : B} (hp : p ≠ []) (h : r.length < p.length) : upt p r = none := by
  cases e : upt p r with
  | none => rfl
  | some x =>
    have := congrArg List.length (upt_len hp (a := x.1) (u := x.2) e).2
    simp at this; omega
theorem drop_at2 {s : B} {k : Nat} {c : UInt8} (h : s[k]? = some c) : s.drop k = c :: s.drop (k + 1) := by
  obtain ⟨hk, h2⟩ := List.getElem?_eq_some_iff.1 h
  rw [List.drop_eq_getElem_cons hk, h2]
theorem upt_here {p s : B} {i : Nat} (hi : i < s.length) (h : p.isPrefixOf (s.drop i) = true) : upt p (s.drop i) = some ([], s.drop (i + p.length)) := by
  have hd := List.drop_eq_getElem_cons hi
  rw [hd] at h ⊢
  rw [upt, if_pos h, ← hd, List.drop_drop]
theorem upt_on {p s : B} {at0 i : Nat} (ha : at0 ≤ i) (hi : i < s.length) (h : p.isPrefixOf (s.drop i) = false) (hI : upt p (s.drop at0) = (upt p (s.drop i)).map fun x => ((s.take i).drop at0 ++ x.1, x.2)) :
    upt p (s.drop at0) = (upt p (s.drop (i + 1))).map fun x => ((s.take (i + 1)).drop at0 ++ x.1, x.2) := by
  have hd := List.drop_eq_getElem_cons hi
  have ht : s.take (i + 1) = s.take i ++ [s[i]] := by rw [List.take_add_one, List.getElem?_eq_getElem hi]; rfl
  rw [hI, hd]
  rw [hd] at h
  rw [upt, if_neg (by rw [h]; decide), ht, List.drop_append_of_le_length (by rw [List.length_take]; omega), Option.map_map]
  congr 1
  funext x
  simp
/-- up to a text -/
def UpP (b : Nat) (s p : B) (at0 : Nat) (ov : Value) (n : Nat) (lv : Value) (e : Int) (w : World) (r : Ending) (w' : World) : Prop :=
  Ob b w w' ∧ match upt p (s.drop at0) with
  | some (a, u) => r = .returned (sV a) ∧ Rd b s (s.length - u.length) ov n lv e w'
  | none => r = .returned (sV []) ∧ Rd b s s.length ov n lv (er1 e 2) w'
set_option maxRecDepth 100000 in
set_option maxHeartbeats 4000000 in
theorem rupto_any (b : Nat) (s p : B) (at0 : Nat) (ov : Value) (n : Nat) (lv : Value) (e : Int) (w : World) (h : Rd b s at0 ov n lv e w) (ha : at0 ≤ s.length) (hs : s.length ≤ 1000000) (hp : p ≠ []) (hpl : p.length ≤ 1000) :
    Calls Tryz.prog 37 #[pV b, sV p] w (UpP b s p at0 ov n lv e w) := by
  have H := Lib.hid h
  obtain ⟨c0, c1, c2, c3, c4, c5⟩ := h.cs
  clear h c2 c3 c4 c5
  go_enter Tryz.func37, Tryz.ntmps37
  go_wp2_with fail
  go_loopw [5] (fun v wr => wr = w ∧ ∃ i : Nat, at0 ≤ i ∧ i ≤ s.length ∧ v = .int .i64 i ∧ Hid (upt p (s.drop at0) = (upt p (s.drop i)).map fun x => ((s.take i).drop at0 ++ x.1, x.2))) (fun v _ => s.length - (intOf v).toNat)
  case atStart =>
    refine ⟨rfl, at0, Nat.le_refl _, ha, rfl, Lib.hid ?_⟩
    have e1 : (s.take at0).drop at0 = [] := List.drop_eq_nil_of_le (by rw [List.length_take]; omega)
    cases upt p (s.drop at0) with
    | none => rfl
    | some x => simp [e1]
  case round =>
    obtain ⟨rfl, i, hai, his, rfl, hI⟩ := hrel
    by_cases hlt : (i : Int) + p.length ≤ s.length
    · have hpp := List.length_pos_iff.2 hp
      have hsl : ∀ W : World, (Instr.slice 9 (sV s) (some (iV i)) (some (iV ((i : Int) + p.length))) none).run Tryz.prog W = .ok (sV ((s.take (i + p.length)).drop i)) W := fun W => by
        have := cut_both s i (i + p.length) (by omega) (by omega) W
        rw [show ((i + p.length : Nat) : Int) = (i : Int) + p.length by omega] at this
        exact this
      have HB := Lib.hid (show p.isPrefixOf (s.drop i) = decide ((s.take (i + p.length)).drop i = p) by
        rw [begins_at (by omega), decide_eq_true (show (p.length : Int) ≤ s.length - i by omega), Bool.true_and])
      generalize (s.take (i + p.length)).drop i = g at *
      by_cases hg : g = p
      · have HF := Lib.hid (show upt p (s.drop at0) = some ((s.take i).drop at0, s.drop (i + p.length)) by
          rw [hI.out, upt_here (by omega) (by rw [HB.out]; exact decide_eq_true hg)]; simp)
        have hcb := cut_both s at0 i hai his
        subst hg
        go_upto_region 5 with (fail)
        go_quiet (fail)
        rename_i nq
        have H1 := H.out.kept ((Kept.refl wr).drewN nq)
        have O1 := Lib.hid ((Ob.refl b wr).drewN nq)
        generalize wr.drewN nq = W1 at *
        have f1 := H1.fz 1
        have HE := Lib.hid (H1.setAt (i + g.length))
        have HO := Lib.hid (O1.out.set 1 (iV ((i : Int) + g.length)))
        have hlen : (s.drop (i + g.length)).length = s.length - (i + g.length) := List.length_drop
        obtain ⟨d0, d1, d2, d3, d4, d5⟩ := H1.cs
        clear H1 d2 d3 d4 d5
        go_wp2
        go_ret
        refine ⟨HO.out, ?_⟩
        rw [HF.out]
        refine ⟨rfl, ?_⟩
        rw [hlen, show s.length - (s.length - (i + g.length)) = i + g.length by omega]
        exact HE.out
      · have hb : (g == p) = false := by simpa using hg
        have HN := Lib.hid (upt_on hai (by omega) (by rw [HB.out]; exact decide_eq_false hg) hI.out)
        go_wp2
        go_roundw
        case rel => exact ⟨trivial, i + 1, by omega, by omega, by go_num, HN⟩
        case measure => simp [intOf]; omega
    · have HF := Lib.hid (show upt p (s.drop at0) = none by
        rw [hI.out, upt_short hp (by rw [List.length_drop]; omega)]; rfl)
      go_wp2_with fail
      refine (rfail_any b s at0 ov n lv e 2 _ H.out).mono ?_
      rintro r w1 ⟨rfl, h1, o1⟩
      have f1 := h1.fz 1
      have HE := Lib.hid (h1.setAt s.length)
      have HO := Lib.hid (o1.set 1 (iV s.length))
      obtain ⟨d0, d1, d2, d3, d4, d5⟩ := h1.cs
      clear h1 o1 c0 c1
      go_wp2
      go_ret
      refine ⟨HO.out, ?_⟩
      rw [HF.out]
      exact ⟨rfl, HE.out⟩
theorem skip_on {s : B} {k : Nat} {c : UInt8} (h : s[k]? = some c) : skip (s.drop k) = if spB c = true then skip (s.drop (k + 1)) else s.drop k := by
  rw [drop_at2 h]
  unfold skip
  rw [List.dropWhile_cons]
/-- Spaces -/
def SpP (b : Nat) (s : B) (at0 : Nat) (ov : Value) (n : Nat) (lv : Value) (e : Int) (w : World) (r : Ending) (w' : World) : Prop :=
  Ob b w w' ∧ r = .returned (iV ((s.length - (skip (s.drop at0)).length - at0 : Nat) : Int)) ∧ Rd b s (s.length - (skip (s.drop at0)).length) ov n lv e w'
set_option maxRecDepth 100000 in
set_option maxHeartbeats 4000000 in
theorem rspaces_any (b : Nat) (s : B) (at0 : Nat) (ov : Value) (n : Nat) (lv : Value) (e : Int) (w : World) (h : Rd b s at0 ov n lv e w) (ha : at0 ≤ s.length) (hs : s.length ≤ 1000000) :
    Calls Tryz.prog 57 #[pV b] w (SpP b s at0 ov n lv e w) := by
  go_enter Tryz.func57, Tryz.ntmps57
  go_wp2_with fail
  go_loopw [3] (fun v wr => ∃ j : Nat, at0 + j ≤ s.length ∧ v = .int .i64 j ∧ Hid (Rd b s (at0 + j) ov n lv e wr) ∧ Hid (Ob b w wr) ∧ Hid (skip (s.drop at0) = skip (s.drop (at0 + j)))) (fun v _ => s.length - at0 - (intOf v).toNat)
  case atStart => exact ⟨0, ha, rfl, Lib.hid h, Lib.hid (Ob.refl b w), Lib.hid rfl⟩
  case round =>
    obtain ⟨j, hj, rfl, hR, hO, hI⟩ := hrel
    clear h
    obtain ⟨c0, c1, c2, c3, c4, c5⟩ := hR.out.cs
    clear c2 c3 c4 c5
    generalize hk : at0 + j = k at *
    by_cases hlt : k < s.length
    · have hd : decide ((k : Int) < s.length) = true := decide_eq_true (by omega)
      obtain ⟨a, haa⟩ : ∃ a, s[k]? = some a := ⟨_, List.getElem?_eq_getElem hlt⟩
      have hat := byte_at s k a haa
      have HS := Lib.hid (skip_on haa)
      clear haa
      go_upto_region 2 with (fail)
      go_quiet (fail)
      rename_i nq
      have R1 := Lib.hid (hR.out.kept ((Kept.refl wr).drewN nq))
      have O1 := Lib.hid (hO.out.drewN nq)
      generalize wr.drewN nq = W1 at *
      clear hR hO c0 c1
      obtain ⟨c0, c1, c2, c3, c4, c5⟩ := R1.out.cs
      clear c2 c3 c4 c5
      go_upto_region 3 with (fail)
      go_quiet (first | (go_at_call 54; exact quiet_eq (rspace_any a _)))
      obtain ⟨W2, hW2, R2, O2⟩ : ∃ W2, W2 = W1.drewN nq ∧ Hid (Rd b s k ov n lv e W2) ∧ Hid (Ob b w W2) := ⟨_, rfl, Lib.hid (R1.out.kept ((Kept.refl W1).drewN _)), Lib.hid (O1.out.drewN _)⟩
      rw [← hW2]
      clear hW2
      clear R1 O1 c0 c1
      cases hsp : spB a with
      | true =>
        have HN := Lib.hid (show skip (s.drop at0) = skip (s.drop (k + 1)) by rw [hI.out, HS.out, hsp, if_pos rfl])
        obtain ⟨c0, c1, c2, c3, c4, c5⟩ := R2.out.cs
        have f1 := R2.out.fz 1
        have R3 := Lib.hid (R2.out.setAt (k + 1))
        have O3 := Lib.hid (O2.out.set 1 (iV ((k + 1 : Nat) : Int)))
        clear c2 c3 c4 c5 hsp
        go_wp2
        go_roundw
        case rel =>
          refine ⟨j + 1, by omega, by go_num, ?_, ?_, ?_⟩
          · rw [show at0 + (j + 1) = k + 1 by omega]; exact R3
          · exact O3
          · rw [show at0 + (j + 1) = k + 1 by omega]; exact HN
        case measure => simp [intOf]; omega
      | false =>
        have HN := Lib.hid (show skip (s.drop at0) = s.drop k by rw [hI.out, HS.out, hsp]; simp)
        clear hsp
        go_wp2
        go_ret
        refine ⟨O2.out, ?_, ?_⟩
        · rw [HN.out, List.length_drop, show s.length - (s.length - k) - at0 = j by omega]; rfl
        · rw [HN.out, List.length_drop, show s.length - (s.length - k) = k by omega]; exact R2.out
    · have hd : decide ((k : Int) < s.length) = false := decide_eq_false (by omega)
      have HN := Lib.hid (show skip (s.drop at0) = [] by rw [hI.out, List.drop_eq_nil_of_le (by omega)]; rfl)
      go_upto_region 2 with (fail)
      go_quiet (fail)
      rename_i nq
      have R1 := Lib.hid (hR.out.kept ((Kept.refl wr).drewN nq))
      have O1 := Lib.hid (hO.out.drewN nq)
      generalize wr.drewN nq = W1 at *
      clear hR hO c0 c1
      go_wp2
      go_ret
      refine ⟨O1.out, ?_, ?_⟩
      · rw [HN.out, show s.length - ([] : B).length - at0 = j by simp; omega]; rfl
      · rw [HN.out, show s.length - ([] : B).length = k by simp; omega]; exact R1.out
end Go.Proofs.YtknggeplnffegaaGreatDoor
/- The document's own answers of layer xml: a name that is taken. -/
set_option linter.unusedVariables false
namespace Go.Proofs.YtknggeplnffegaaGreatDoor
open Go.ChangeShapes Go.WideShapes Go.ChangeAt Go.RowKit
open En Xm
theorem nmS_end {t y : B} (h : allN t = true) (hy : ∀ c r, y = c :: r → sgn t.isEmpty c = false) : nmS (t ++ y) = (t, y) := by
  cases t with
  | nil =>
    cases y with
    | nil => rfl
    | cons c r => rw [List.nil_append, nmS, if_neg (by rw [show sgn true c = false from hy c r rfl]; decide)]
  | cons c r =>
    unfold allN at h
    rw [Bool.and_eq_true] at h
    rw [List.cons_append, nmS, if_pos h.1]
    have e1 : (r ++ y).takeWhile (sgn false) = r := by
      rw [List.takeWhile_append_of_pos (fun a ha => List.all_eq_true.1 h.2 a ha)]
      cases y with
      | nil => simp
      | cons d y => rw [List.takeWhile_cons, if_neg (by rw [show sgn false d = false from hy d y rfl]; decide)]; simp
    have e2 : (r ++ y).dropWhile (sgn false) = y := by
      rw [List.dropWhile_append_of_pos (fun a ha => List.all_eq_true.1 h.2 a ha)]
      cases y with
      | nil => rfl
      | cons d y => rw [List.dropWhile_cons, if_neg (by rw [show sgn false d = false from hy d y rfl]; decide)]
    rw [e1, e2]
theorem sub_snoc {s : B} {a k : Nat} {c : UInt8} (ha : a ≤ k) (h : s[k]? = some c) : (s.take (k + 1)).drop a = (s.take k).drop a ++ [c] := by
  have hk := (List.getElem?_eq_some_iff.1 h).1
  rw [take_snoc h, List.drop_append_of_le_length (by rw [List.length_take]; omega)]
theorem sub_all {s : B} {a k : Nat} (ha : a ≤ k) (hk : k ≤ s.length) : s.drop a = (s.take k).drop a ++ s.drop k := by
  have : s.drop a = (s.take k ++ s.drop k).drop a := by rw [List.take_append_drop]
  rw [this, List.drop_append_of_le_length (by rw [List.length_take]; omega)]
theorem sub_empty {s : B} {a k : Nat} (ha : a ≤ k) (hk : k ≤ s.length) : ((s.take k).drop a).isEmpty = ((k : Int) == (a : Int)) := by
  have hl : ((s.take k).drop a).length = k - a := by rw [List.length_drop, List.length_take]; omega
  rw [Bool.eq_iff_iff, List.isEmpty_iff, beq_iff_eq]
  constructor
  · intro e
    rw [e] at hl
    simp at hl; omega
  · intro e
    exact List.length_eq_zero_iff.1 (by omega)
/-- a name that is taken -/
def NmP (b : Nat) (s : B) (at0 : Nat) (ov : Value) (n : Nat) (lv : Value) (e : Int) (w : World) (r : Ending) (w' : World) : Prop :=
  Ob b w w' ∧ r = .returned (sV (nmS (s.drop at0)).1) ∧ Rd b s (s.length - (nmS (s.drop at0)).2.length) ov n lv (if isN (nmS (s.drop at0)).1 = true then e else er1 e 2) w'
set_option maxRecDepth 100000 in
set_option maxHeartbeats 4000000 in
theorem rtname_any (b : Nat) (s : B) (at0 : Nat) (ov : Value) (n : Nat) (lv : Value) (e : Int) (w : World) (h : Rd b s at0 ov n lv e w) (ha : at0 ≤ s.length) (hs : s.length ≤ 1000000) :
    Calls Tryz.prog 56 #[pV b] w (NmP b s at0 ov n lv e w) := by
  obtain ⟨c0, c1, c2, c3, c4, c5⟩ := h.cs
  clear c2 c3 c4 c5
  go_enter Tryz.func56, Tryz.ntmps56
  go_wp2_with fail
  clear c0 c1
  -- behind the loop a place where the name ends
  go_loopw [4] (fun _ wr => ∃ k : Nat, at0 ≤ k ∧ k ≤ s.length ∧ Hid (Rd b s k ov n lv e wr) ∧ Hid (Ob b w wr) ∧ Hid (allN ((s.take k).drop at0) = true)) (fun _ wr => s.length - (intOf ((wr.cell? ⟨b, 1, none⟩).getD undef)).toNat)
  case atStart => exact ⟨at0, Nat.le_refl _, ha, Lib.hid h, Lib.hid (Ob.refl b w), Lib.hid (by rw [List.drop_eq_nil_of_le (by rw [List.length_take]; omega)]; rfl)⟩
  case round =>
    obtain ⟨k, hak, hks, hR, hO, hI⟩ := hrel
    clear h
    obtain ⟨c0, c1, c2, c3, c4, c5⟩ := hR.out.cs
    have hmes : s.length - (intOf ((wr.cell? ⟨b, 1, none⟩).getD undef)).toNat = s.length - k := by rw [c1]; simp [intOf]
    clear c2 c3 c4 c5
    by_cases hlt : k < s.length
    · have hd : decide ((k : Int) < s.length) = true := decide_eq_true (by omega)
      obtain ⟨a, haa⟩ : ∃ a, s[k]? = some a := ⟨_, List.getElem?_eq_getElem hlt⟩
      have hat := byte_at s k a haa
      have HS := Lib.hid (sub_snoc hak haa)
      have HD := Lib.hid (drop_at2 haa)
      have HE := Lib.hid (sub_empty (s := s) hak hks)
      clear haa
      go_upto_region 2 with (fail)
      go_quiet (fail)
      rename_i nq
      have R1 := Lib.hid (hR.out.kept ((Kept.refl wr).drewN nq))
      have O1 := Lib.hid (hO.out.drewN nq)
      generalize wr.drewN nq = W1 at *
      clear hR hO c0 c1
      obtain ⟨c0, c1, c2, c3, c4, c5⟩ := R1.out.cs
      clear c2 c3 c4 c5
      go_upto_region 3 with (fail)
      go_quiet (first | (go_at_call 25; exact quiet_eq (rsignc_any a _ _)))
      obtain ⟨W2, hW2, R2, O2⟩ : ∃ W2, W2 = W1.drewN nq ∧ Hid (Rd b s k ov n lv e W2) ∧ Hid (Ob b w W2) := ⟨_, rfl, Lib.hid (R1.out.kept ((Kept.refl W1).drewN _)), Lib.hid (O1.out.drewN _)⟩
      rw [← hW2]
      clear hW2
      cases hsg : sgn ((k : Int) == (at0 : Int)) a with
      | true =>
        have HN := Lib.hid (show allN ((s.take (k + 1)).drop at0) = true by rw [HS.out, allN_snoc, hI.out, HE.out, hsg]; rfl)
        obtain ⟨c0, c1, c2, c3, c4, c5⟩ := R2.out.cs
        have f1 := R2.out.fz 1
        have R3 := Lib.hid (R2.out.setAt (k + 1))
        have O3 := Lib.hid (O2.out.set 1 (iV ((k + 1 : Nat) : Int)))
        clear c2 c3 c4 c5
        go_wp2
        go_roundw
        case rel => exact ⟨k + 1, by omega, hlt, R3, O3, HN⟩
        case measure =>
          have := R3.out.cs.2.1
          rw [hmes]
          show s.length - (intOf (((W2.setCell ⟨b, 1, none⟩ (iV ((k + 1 : Nat) : Int))).cell? ⟨b, 1, none⟩).getD undef)).toNat < s.length - k
          rw [this]
          simp [intOf]; omega
      | false =>
        have HN := Lib.hid (show nmS (s.drop at0) = ((s.take k).drop at0, s.drop k) by
          rw [sub_all hak hks]
          refine nmS_end hI.out (fun c r hc => ?_)
          rw [HD.out] at hc
          cases hc
          rw [HE.out]; exact hsg)
        clear hsg HS HD HE hat
        have hcb := cut_both s at0 k hak hks
        have hcl : ((s.take k).drop at0).length ≤ 1000000 := by rw [List.length_drop, List.length_take]; omega
        clear c0 c1
        obtain ⟨c0, c1, c2, c3, c4, c5⟩ := R2.out.cs
        clear c2 c3 c4 c5
        generalize (s.take k).drop at0 = t at *
        go_upto_region 6 with (fail)
        go_quiet (fail)
        obtain ⟨W7, hW7, R7, O7⟩ : ∃ W7, W7 = W2.drewN nq ∧ Hid (Rd b s k ov n lv e W7) ∧ Hid (Ob b w W7) := ⟨_, rfl, Lib.hid (R2.out.kept ((Kept.refl W2).drewN _)), Lib.hid (O2.out.drewN _)⟩
        rw [← hW7]
        clear hW7
        clear c0 c1
        go_wp2_with fail
        refine (rname_any t _ hcl).mono ?_
        rintro r w8 ⟨rfl, rfl⟩
        cases hn : isN t with
        | true =>
          have HT := Lib.hid hn
          clear hn
          go_wp2
          go_ret
          refine ⟨O7.out, by rw [HN.out]; rfl, ?_⟩
          rw [HN.out, if_pos HT.out, List.length_drop, show s.length - (s.length - k) = k by omega]
          exact R7.out
        | false =>
          have HT := Lib.hid hn
          clear hn
          go_wp2_with fail
          refine (rfail_any b s k ov n lv e 2 _ R7.out).mono ?_
          rintro r w9 ⟨rfl, h9, o9⟩
          have H9 := Lib.hid h9
          have O9 := Lib.hid (O7.out.trans o9)
          clear h9 o9
          go_wp2
          go_ret
          refine ⟨O9.out, by rw [HN.out]; rfl, ?_⟩
          rw [HN.out, if_neg (by rw [HT.out]; decide), List.length_drop, show s.length - (s.length - k) = k by omega]
          exact H9.out
    · have hd : decide ((k : Int) < s.length) = false := decide_eq_false (by omega)
      have HN := Lib.hid (show nmS (s.drop at0) = ((s.take k).drop at0, s.drop k) by
        rw [sub_all hak hks]
        exact nmS_end hI.out (fun c r hc => by rw [List.drop_eq_nil_of_le (by omega)] at hc; cases hc))
      go_upto_region 2 with (fail)
      go_quiet (fail)
      rename_i nq
      have R2 := Lib.hid (hR.out.kept ((Kept.refl wr).drewN nq))
      have O2 := Lib.hid (hO.out.drewN nq)
      generalize wr.drewN nq = W2 at *
      clear hR hO
      have hcb := cut_both s at0 k hak hks
      have hcl : ((s.take k).drop at0).length ≤ 1000000 := by rw [List.length_drop, List.length_take]; omega
      clear c0 c1
      obtain ⟨c0, c1, c2, c3, c4, c5⟩ := R2.out.cs
      clear c2 c3 c4 c5
      generalize (s.take k).drop at0 = t at *
      go_upto_region 6 with (fail)
      go_quiet (fail)
      obtain ⟨W7, hW7, R7, O7⟩ : ∃ W7, W7 = W2.drewN nq ∧ Hid (Rd b s k ov n lv e W7) ∧ Hid (Ob b w W7) := ⟨_, rfl, Lib.hid (R2.out.kept ((Kept.refl W2).drewN _)), Lib.hid (O2.out.drewN _)⟩
      rw [← hW7]
      clear hW7
      clear c0 c1
      go_wp2_with fail
      refine (rname_any t _ hcl).mono ?_
      rintro r w8 ⟨rfl, rfl⟩
      cases hn : isN t with
      | true =>
        have HT := Lib.hid hn
        clear hn
        go_wp2
        go_ret
        refine ⟨O7.out, by rw [HN.out]; rfl, ?_⟩
        rw [HN.out, if_pos HT.out, List.length_drop, show s.length - (s.length - k) = k by omega]
        exact R7.out
      | false =>
        have HT := Lib.hid hn
        clear hn
        go_wp2_with fail
        refine (rfail_any b s k ov n lv e 2 _ R7.out).mono ?_
        rintro r w9 ⟨rfl, h9, o9⟩
        have H9 := Lib.hid h9
        have O9 := Lib.hid (O7.out.trans o9)
        clear h9 o9
        go_wp2
        go_ret
        refine ⟨O9.out, by rw [HN.out]; rfl, ?_⟩
        rw [HN.out, if_neg (by rw [HT.out]; decide), List.length_drop, show s.length - (s.length - k) = k by omega]
        exact H9.out
end Go.Proofs.YtknggeplnffegaaGreatDoor
/- The document's own answers of layer xml: an attribute that is taken. -/
set_option linter.unusedVariables false
namespace Go.Proofs.YtknggeplnffegaaGreatDoor
open Go.ChangeShapes Go.WideShapes Go.ChangeAt Go.RowKit
open En Xm
abbrev atV (a : Atr) : Value := .agg #[sV a.1, sV a.2]
/-- an attribute in a block of its own -/
def Ba (k : Nat) (a : Atr) (w : World) : Prop := w.heap[k]? = some (.cells #[sV a.1, sV a.2] 44 (0, 0))
theorem Ba.lt {k : Nat} {a : Atr} {w : World} (h : Ba k a w) : k < w.heap.size := (Array.getElem?_eq_some_iff.1 h).1
theorem Ba.cs {k : Nat} {a : Atr} {w : World} (h : Ba k a w) : w.cell? ⟨k, 0, none⟩ = some (sV a.1) ∧ w.cell? ⟨k, 1, none⟩ = some (sV a.2) := by
  unfold Ba at h
  simp [World.cell?, h]
theorem Ba.fz {k : Nat} {a : Atr} {w : World} (h : Ba k a w) (j : Nat) : w.frozen? ⟨k, j, none⟩ = false := Lib.frozen_of_heap h j
theorem Ba.ob {k b : Nat} {a : Atr} {w w' : World} (h : Ba k a w) (o : Ob b w w') (hne : k ≠ b) : Ba k a w' := (o.block k h.lt hne).trans h
theorem Ba.kept {k : Nat} {a : Atr} {w w' : World} (h : Ba k a w) (o : Kept w w') : Ba k a w' := (o.block k h.lt).trans h
theorem ba_new (w : World) (a : Atr) : Ba w.heap.size a (w.alloc (.cells #[sV a.1, sV a.2] 44)) := by
  show (w.heap.push _)[w.heap.size]? = _
  simp
theorem nm_drop (r : B) (s : B) (at0 : Nat) (hr : r = s.drop at0) (ha : at0 ≤ s.length) : s.drop (s.length - (nmS r).2.length) = (nmS r).2 ∧ (nmS r).2.length ≤ s.length := by
  have h1 := nmS_eq r
  have h2 := nmS_len r
  have h3 : r.length = s.length - at0 := by rw [hr, List.length_drop]
  have h4 : (nmS r).2.length ≤ s.length := by omega
  refine ⟨?_, h4⟩
  have : s.drop (at0 + (nmS r).1.length) = (nmS r).2 := by
    rw [← List.drop_drop, ← hr]
    have e := congrArg (List.drop (nmS r).1.length) h1
    rw [List.drop_left] at e
    exact e
  rw [show s.length - (nmS r).2.length = at0 + (nmS r).1.length by omega, this]
theorem upt_drop {p r a u s : B} {at0 : Nat} (hp : p ≠ []) (hr : r = s.drop at0) (ha : at0 ≤ s.length) (h : upt p r = some (a, u)) : s.drop (s.length - u.length) = u ∧ u.length ≤ s.length := by
  have h1 := (upt_len hp h).2
  have h3 : r.length = s.length - at0 := by rw [hr, List.length_drop]
  have h2 := congrArg List.length h1
  simp only [List.length_append] at h2
  refine ⟨?_, by omega⟩
  have : s.drop (at0 + (a ++ p).length) = u := by
    rw [← List.drop_drop, ← hr, h1, List.drop_left]
  rw [show s.length - u.length = at0 + (a ++ p).length by rw [List.length_append]; omega, this]
theorem upto_same {b : Nat} {s p : B} {at0 : Nat} {ov : Value} {n : Nat} {lv : Value} {e : Int} {w w' : World} {r : Ending} (h : UpP b s p at0 ov n lv e w r w') :
    Ob b w w' ∧ ∃ raw at2 e2, r = .returned (sV raw) ∧ Rd b s at2 ov n lv e2 w' ∧ ((∃ u, upt p (s.drop at0) = some (raw, u) ∧ at2 = s.length - u.length ∧ e2 = e) ∨ (upt p (s.drop at0) = none ∧ raw = [] ∧ at2 = s.length ∧ e2 = er1 e 2)) ∧ at2 ≤ s.length := by
  obtain ⟨h1, h2⟩ := h
  refine ⟨h1, ?_⟩
  cases hu : upt p (s.drop at0) with
  | none =>
    rw [hu] at h2
    exact ⟨_, _, _, h2.1, h2.2, Or.inr ⟨rfl, rfl, rfl, rfl⟩, Nat.le_refl _⟩
  | some x =>
    rw [hu] at h2
    exact ⟨_, _, _, h2.1, h2.2, Or.inl ⟨x.2, rfl, rfl, rfl⟩, by omega⟩
theorem er2 {e e' : Int} (h : e = 0 ∨ e = 2) (h' : e' = 0 ∨ e' = 2) : er1 e e' = 0 ∨ er1 e e' = 2 := by
  unfold er1; split <;> assumption
/-- what an attribute comes to -/
theorem atr_sum {r nm t raw : B} {q : UInt8} {e1 e2 e3 e4 : Int} {L at2 : Nat} (hn : nmS r = (nm, 61 :: q :: t)) (hq : q = 34 ∨ q = 39)
    (h1 : e1 = if isN nm = true then 0 else 2) (h2 : (∃ u, upt [q] t = some (raw, u) ∧ at2 = L - u.length ∧ e2 = e1) ∨ (upt [q] t = none ∧ raw = [] ∧ at2 = L ∧ e2 = er1 e1 2))
    (h3 : e3 = if 60 ∈ raw then er1 e2 2 else e2) (h4 : e4 = if (gone raw).2 = true then e3 else er1 e3 2) :
    match atr r with
    | some (a, u) => a = (nm, deT raw) ∧ at2 = L - u.length ∧ e4 = 0
    | none => e4 = 2 := by
  have g2 : er1 2 2 = 2 := rfl
  have g0 : er1 0 2 = 2 := rfl
  unfold atr
  rw [hn]
  try simp only
  by_cases hN : isN nm = true
  · rw [if_pos hN] at h1 ⊢
    try simp only
    rw [if_pos hq]
    rcases h2 with ⟨u, hu, ha, he⟩ | ⟨hu, hr, ha, he⟩
    · rw [hu]
      try simp only
      by_cases h60 : 60 ∈ raw
      · rw [if_pos h60] at h3 ⊢
        try simp only
        rw [h4, h3, he, h1, g0]
        split <;> rfl
      · rw [if_neg h60] at h3 ⊢
        by_cases hg : (gone raw).2 = true
        · rw [if_pos hg] at h4 ⊢
          exact ⟨by rw [deT_ok hg], ha, by rw [h4, h3, he, h1]⟩
        · rw [if_neg hg] at h4 ⊢
          try simp only
          rw [h4, h3, he, h1, g0]
    · rw [hu]
      try simp only
      have h6 : ¬ (60 : UInt8) ∈ raw := by rw [hr]; simp
      rw [if_neg h6] at h3
      rw [h4, h3, he, h1, g0]
      split <;> rfl
  · rw [if_neg hN] at h1 ⊢
    have k2 : e2 = 2 := by
      rcases h2 with ⟨u, hu, ha, he⟩ | ⟨hu, hr, ha, he⟩
      · rw [he, h1]
      · rw [he, h1, g2]
    have k3 : e3 = 2 := by rw [h3, k2, g2]; split <;> rfl
    try simp only
    rw [h4, k3, g2]
    split <;> rfl
theorem er11 (e : Int) : er1 (er1 e 2) 2 = er1 e 2 := by
  unfold er1
  by_cases h : e = 0
  · rw [if_pos h]; rfl
  · rw [if_neg h, if_neg h]
theorem mem60 {raw : B} {k : Nat} {c : UInt8} (h : raw[k]? = some c) : (60 ∈ raw.take (k + 1)) ↔ (60 ∈ raw.take k ∨ c = 60) := by
  rw [take_snoc h, List.mem_append, List.mem_singleton]
  constructor
  · rintro (h | h)
    · exact Or.inl h
    · exact Or.inr h.symm
  · rintro (h | h)
    · exact Or.inl h
    · exact Or.inr h.symm
theorem atr_no {r : B} (h : ∀ q t, (nmS r).2 = 61 :: q :: t → ¬ (q = 34 ∨ q = 39)) : atr r = none := by
  unfold atr
  split
  · split
    · rename_i q t e
      rw [if_neg (h q t e)]
    · rfl
  · rfl
theorem pfx_two {q : UInt8} {y : B} : ([61, q] : B).isPrefixOf y = true ↔ ∃ t, y = 61 :: q :: t := by
  rw [List.isPrefixOf_iff_prefix]
  constructor
  · rintro ⟨t, rfl⟩; exact ⟨t, rfl⟩
  · rintro ⟨t, rfl⟩; exact ⟨t, rfl⟩
theorem Ba.set2 {k : Nat} {a : Atr} {w : World} (h : Ba k a w) (a' : Atr) : Ba k a' ((w.setCell ⟨k, 0, none⟩ (sV a'.1)).setCell ⟨k, 1, none⟩ (sV a'.2)) := by
  unfold Ba at h ⊢
  simp [World.setCell, Array.getElem?_modify, h]
theorem Ba.other {k j : Nat} {a : Atr} {w : World} (h : Ba k a w) (hne : k ≠ j) (i : Nat) (v : Value) : Ba k a (w.setCell ⟨j, i, none⟩ v) := (Below.heap_setCell _ _ _ _ hne).trans h
theorem Rd.other {b : Nat} {s : B} {at0 : Nat} {ov : Value} {n : Nat} {lv : Value} {e : Int} {w : World} (h : Rd b s at0 ov n lv e w) {j : Nat} (hne : b ≠ j) (i : Nat) (v : Value) : Rd b s at0 ov n lv e (w.setCell ⟨j, i, none⟩ v) := (Below.heap_setCell _ _ _ _ hne).trans h
theorem Ob.setNew {b : Nat} {w x : World} (h : Ob b w x) {j : Nat} (hj : w.heap.size ≤ j) (i : Nat) (v : Value) : Ob b w (x.setCell ⟨j, i, none⟩ v) :=
  ⟨h.os, h.tape, h.output, by simpa [World.setCell] using h.size, fun k hk hb => (Below.heap_setCell _ _ _ _ (show k ≠ j by omega)).trans (h.block k hk hb)⟩
theorem Ba.set1 {k : Nat} {a : Atr} {w : World} (h : Ba k a w) (v : B) : Ba k (a.1, v) (w.setCell ⟨k, 1, none⟩ (sV v)) := by
  unfold Ba at h ⊢
  simp [World.setCell, Array.getElem?_modify, h]
/-- an attribute that is taken -/
def AtP (b : Nat) (s : B) (at0 : Nat) (ov : Value) (n : Nat) (lv : Value) (w : World) (r : Ending) (w' : World) : Prop :=
  Ob b w w' ∧ match atr (s.drop at0) with
  | some (a, u) => r = .returned (atV a) ∧ Rd b s (s.length - u.length) ov n lv 0 w'
  | none => ∃ a at1, r = .returned (atV a) ∧ at1 ≤ s.length ∧ Rd b s at1 ov n lv 2 w'
set_option maxRecDepth 100000 in
set_option maxHeartbeats 8000000 in
theorem rattr_any (b : Nat) (s : B) (at0 : Nat) (ov : Value) (n : Nat) (lv : Value) (w : World) (h : Rd b s at0 ov n lv 0 w) (ha : at0 ≤ s.length) (hs : s.length ≤ 1000000) :
    Calls Tryz.prog 59 #[pV b] w (AtP b s at0 ov n lv w) := by
  have hbl := h.lt
  have K0 := (Kept.refl w).alloc (.cells #[sV [], sV []] 44)
  have H0 := h.kept K0
  have A0 := ba_new w ([], [])
  have s0 : (w.alloc (.cells #[sV [], sV []] 44)).heap.size = w.heap.size + 1 := by simp
  go_enter Tryz.func59, Tryz.ntmps59
  go_wp2_with fail
  refine (rtname_any b s at0 ov n lv 0 _ H0 ha hs).mono ?_
  rintro r w1 ⟨o1, rfl, h1⟩
  have s1 := o1.size
  rw [s0] at s1
  have A1 := A0.ob o1 (by omega)
  have O1 := (Ob.refl b w).kept K0 |>.trans o1
  clear o1 A0 H0 K0 s0
  obtain ⟨hy, hyl⟩ := nm_drop (s.drop at0) s at0 rfl ha
  obtain ⟨nm, y, hny⟩ : ∃ nm y, nmS (s.drop at0) = (nm, y) := ⟨_, _, rfl⟩
  rw [hny] at h1 hy hyl ⊢
  simp only at h1 hy hyl ⊢
  generalize he1 : (if isN nm = true then (0 : Int) else er1 0 2) = e1 at h1
  have he1' : e1 = if isN nm = true then 0 else 2 := by rw [← he1]; rfl
  have HE1 := Lib.hid he1'
  have k1 := (Kept.refl w1).alloc (.cells #[sV nm, sV []] 44)
  have H2 := Lib.hid (h1.kept k1)
  have A2 := Lib.hid (A1.kept k1)
  have C2 := Lib.hid (ba_new w1 (nm, []))
  have O2 := Lib.hid (O1.kept k1)
  have hy2 : s.length - y.length ≤ s.length := by omega
  have HN := Lib.hid hny
  have HY := Lib.hid hy
  clear h1 A1 O1 k1 he1 he1' hny hy
  generalize hat1 : s.length - y.length = at1 at *
  go_wp2_with fail
  generalize w1.alloc (.cells #[sV nm, sV []] 44) = W2 at *
  refine (rbegins_any b s [61, 34] at1 ov n lv e1 _ H2.out hy2 hs (by simp)).mono ?_
  rintro r w3 ⟨rfl, k3⟩
  have H3 := Lib.hid (H2.out.kept k3)
  have A3 := Lib.hid (A2.out.kept k3)
  have C3 := Lib.hid (C2.out.kept k3)
  have O3 := Lib.hid (O2.out.kept k3)
  clear H2 A2 C2 O2 k3
  go_wp2_with fail
  refine (rbegins_any b s [61, 39] at1 ov n lv e1 _ H3.out hy2 hs (by simp)).mono ?_
  rintro r w4 ⟨rfl, k4⟩
  have H4 := Lib.hid (H3.out.kept k4)
  have A4 := Lib.hid (A3.out.kept k4)
  have C4 := Lib.hid (C3.out.kept k4)
  have O4 := Lib.hid (O3.out.kept k4)
  clear H3 A3 C3 O3 k4
  rw [HY.out]
  have fin : ∀ (W : World) (at9 : Nat) (e9 : Int) (a : Atr) , True := fun _ _ _ _ => trivial
  cases hone : ([61, 34] : B).isPrefixOf y with
  | true =>
    obtain ⟨t, ht⟩ := pfx_two.1 hone
    have htwo : ([61, 39] : B).isPrefixOf y = false := by rw [ht]; rfl
    rw [htwo]
    subst ht
    have hdt : s.drop (at1 + 2) = t := by
      rw [← List.drop_drop, HY.out]; rfl
    have hq3 : (61 :: 34 :: t : B).length ≤ s.length := hyl
    simp only [List.length_cons] at hq3 hat1
    have hsl : ∀ W : World, (Instr.slice 9 (sV s) (some (iV ((at1 : Int) + 1))) (some (iV ((at1 : Int) + 2))) none).run Tryz.prog W = .ok (sV [34]) W := fun W => by
      have := cut_both s (at1 + 1) (at1 + 2) (by omega) (by omega) W
      rw [show ((at1 + 1 : Nat) : Int) = (at1 : Int) + 1 by omega, show ((at1 + 2 : Nat) : Int) = (at1 : Int) + 2 by omega] at this
      rw [this]
      congr 3
      rw [List.drop_take, ← List.drop_drop, HY.out]
      simp [show at1 + 2 - (at1 + 1) = 1 by omega]
    obtain ⟨c0, c1, c2, c3, c4, c5⟩ := H4.out.cs
    clear c2 c3 c4 c5
    go_upto_region 7 with (fail)
    go_quiet (fail)
    rename_i nq
    have H5 := H4.out.kept ((Kept.refl w4).drewN nq)
    have A5 := A4.out.kept ((Kept.refl w4).drewN nq)
    have C5 := C4.out.kept ((Kept.refl w4).drewN nq)
    have O5 := O4.out.drewN nq
    generalize w4.drewN nq = W5 at *
    clear H4 A4 C4 O4 c0 c1
    obtain ⟨c0, c1, c2, c3, c4, c5⟩ := H5.cs
    have f1 := H5.fz 1
    have H6 := Lib.hid (H5.setAt (at1 + 2))
    have A6 := Lib.hid (A5.other (j := b) (by omega) 1 (iV ((at1 + 2 : Nat) : Int)))
    have C6 := Lib.hid (C5.other (j := b) (by omega) 1 (iV ((at1 + 2 : Nat) : Int)))
    have O6 := Lib.hid (O5.set 1 (iV ((at1 + 2 : Nat) : Int)))
    clear H5 A5 C5 O5 c2 c3 c4 c5
    go_wp2_with fail
    refine (rupto_any b s [34] (at1 + 2) ov n lv e1 _ H6.out (by omega) hs (by simp) (by simp)).mono ?_
    intro r w7 hU
    obtain ⟨o7, raw, at2, e2, rfl, h7, hc, hat2⟩ := upto_same hU
    rw [hdt] at hc
    have hrl : raw.length ≤ s.length := by
      rcases hc with ⟨u, hu, _⟩ | ⟨_, hr, _⟩
      · have := congrArg List.length (upt_len (by simp) hu).2
        simp only [List.length_append, List.length_cons, List.length_nil] at this
        omega
      · rw [hr]; simp
    have H7 := Lib.hid h7
    have A7 := Lib.hid (A6.out.ob o7 (by omega))
    have C7 := Lib.hid (C6.out.ob o7 (by omega))
    have O7 := Lib.hid (O6.out.trans o7)
    have HC := Lib.hid hc
    clear hU h7 o7 hc H6 A6 C6 O6 f1 c0 c1
    go_wp2_with fail
    go_loopw [8] (fun v wr => ∃ k : Nat, k ≤ raw.length ∧ v = .int .i64 k ∧ Hid (Rd b s at2 ov n lv (if 60 ∈ raw.take k then er1 e2 2 else e2) wr) ∧ Hid (Ba w.heap.size ([], []) wr) ∧ Hid (Ba w1.heap.size (nm, []) wr) ∧ Hid (Ob b w wr)) (fun v _ => raw.length - (intOf v).toNat)
    case atStart => exact ⟨0, Nat.zero_le _, rfl, by rw [if_neg (by simp)]; exact H7, A7, C7, O7⟩
    case round =>
      obtain ⟨k, hk, rfl, hH, hA, hC, hO⟩ := hrel
      clear H7 A7 C7 O7
      by_cases hlt : k < raw.length
      · obtain ⟨a, haa⟩ : ∃ a, raw[k]? = some a := ⟨_, List.getElem?_eq_getElem hlt⟩
        have hat := byte_at raw k a haa
        have HM := Lib.hid (mem60 haa)
        clear haa
        by_cases g60 : (a.toNat : Int) = 60
        · have gb : ((a.toNat : Int) == 60) = true := beq_iff_eq.2 g60
          have ga : a = 60 := u8_eq g60
          clear g60
          go_wp2_with fail
          refine (rfail_any b s at2 ov n lv _ 2 _ hH.out).mono ?_
          rintro r w8 ⟨rfl, h8, o8⟩
          have h8' : Rd b s at2 ov n lv (if 60 ∈ raw.take (k + 1) then er1 e2 2 else e2) w8 := by
            rw [if_pos (HM.out.2 (Or.inr ga))]
            by_cases q : 60 ∈ raw.take k
            · rw [if_pos q, er11] at h8; exact h8
            · rw [if_neg q] at h8; exact h8
          have A8 := Lib.hid (hA.out.ob o8 (by omega))
          have C8 := Lib.hid (hC.out.ob o8 (by omega))
          have O8 := Lib.hid (hO.out.trans o8)
          have H8 := Lib.hid h8'
          clear h8 h8' o8 hH hA hC hO
          go_wp2
          go_roundw
          case rel => exact ⟨k + 1, hlt, by go_num, H8, A8, C8, O8⟩
          case measure => simp [intOf]; omega
        · have gb : ((a.toNat : Int) == 60) = false := beq_eq_false_iff_ne.2 g60
          have H8 : Hid (Rd b s at2 ov n lv (if 60 ∈ raw.take (k + 1) then er1 e2 2 else e2) wr) := Lib.hid (by
            have h := hH.out
            by_cases q : 60 ∈ raw.take k
            · rw [if_pos q] at h; rw [if_pos (HM.out.2 (Or.inl q))]; exact h
            · rw [if_neg q] at h
              rw [if_neg (fun e => (HM.out.1 e).elim q (fun e => g60 (by rw [e]; rfl)))]; exact h)
          clear g60
          go_wp2
          go_roundw
          case rel => exact ⟨k + 1, hlt, by go_num, H8, hA, hC, hO⟩
          case measure => simp [intOf]; omega
      · have hkk : k = raw.length := by omega
        have hH2 := hH.out
        rw [hkk, List.take_length] at hH2
        generalize he3 : (if 60 ∈ raw then er1 e2 2 else e2) = e3 at hH2
        have HE3 := Lib.hid he3.symm
        have H8 := Lib.hid hH2
        clear he3 hH2 hH
        go_wp2_with fail
        refine (rdecode_any raw _ (by omega)).mono ?_
        rintro r w9 ⟨rfl, k9⟩
        have H9 := Lib.hid (H8.out.kept k9)
        have A9 := Lib.hid (hA.out.kept k9)
        have C9 := Lib.hid (hC.out.kept k9)
        have O9 := Lib.hid (hO.out.kept k9)
        clear H8 hA hC hO k9
        have hdl : (deT raw).length ≤ raw.length := by unfold deT; split; exact gone_le raw; simp
        cases hg : (gone raw).2 with
        | true =>
          have hde := deE_of hg
          rw [hde]
          have HS := Lib.hid (atr_sum HN.out (by decide) HE1.out HC.out HE3.out (show e3 = if (gone raw).2 = true then e3 else er1 e3 2 by rw [if_pos hg]))
          have O0 := O9.out
          have C0 := C9.out
          have A0 := A9.out
          have H0 := H9.out
          clear hg hde O9 C9 A9 H9 HE3 HC HE1
          generalize deT raw = dt at *
          have g1 := C0.fz 1
          obtain ⟨x0, x1⟩ := C0.cs
          have C1 := C0.set1 dt
          have A1 := A0.other (j := w1.heap.size) (by omega) 1 (sV dt)
          have H1 := H0.other (j := w1.heap.size) (by omega) 1 (sV dt)
          have O1 := O0.setNew (j := w1.heap.size) (by omega) 1 (sV dt)
          go_upto_region 19 with (fail)
          generalize hWW : World.setCell _ _ _ = WW at *
          obtain ⟨x0', x1'⟩ := C1.cs
          obtain ⟨y0, y1⟩ := A1.cs
          have z0 := A1.fz 0
          have z1 := A1.fz 1
          have A6 := A1.set2 (nm, dt)
          have H6 := (H1.other (j := w.heap.size) (by omega) 0 (sV nm)).other (j := w.heap.size) (by omega) 1 (sV dt)
          have O6 := (O1.setNew (Nat.le_refl _) 0 (sV nm)).setNew (Nat.le_refl _) 1 (sV dt)
          have Z := Lib.hid (And.intro A6 (And.intro H6 O6))
          clear A6 H6 O6 H1 O1 H0 O0
          go_wp2
          refine bodyPost_ret (v := atV (nm, dt)) (results_cell_row Tryz.results59 _ _ w.heap.size 44 _ (0, 0) _ rfl Z.out.1 Tryz.underlying44 rfl (by kernel_rfl)) rfl ⟨Z.out.2.2, ?_⟩
          have hsum := HS.out
          cases hq : atr (s.drop at0) with
          | none =>
            rw [hq] at hsum
            simp only at hsum
            refine ⟨(nm, dt), at2, rfl, hat2, ?_⟩
            have := Z.out.2.1
            rw [hsum] at this; exact this
          | some x =>
            rw [hq] at hsum
            simp only at hsum
            obtain ⟨g1, g2, g3⟩ := hsum
            refine ⟨by rw [g1], ?_⟩
            have := Z.out.2.1
            rw [g3, g2] at this; exact this
        | false =>
          have hde : deE raw = 2 := by unfold deE; rw [hg]; rfl
          rw [hde]
          have HS := Lib.hid (atr_sum (e4 := er1 e3 2) HN.out (by decide) HE1.out HC.out HE3.out (show er1 e3 2 = if (gone raw).2 = true then e3 else er1 e3 2 by rw [hg]; rfl))
          clear hg hde HE3 HC HE1
          go_wp2_with fail
          refine (rfail_any b s at2 ov n lv e3 2 _ H9.out).mono ?_
          rintro r w10 ⟨rfl, H0, o10⟩
          have A0 := A9.out.ob o10 (by omega)
          have C0 := C9.out.ob o10 (by omega)
          have O0 := O9.out.trans o10
          clear H9 A9 C9 O9 o10
          generalize deT raw = dt at *
          have g1 := C0.fz 1
          obtain ⟨x0, x1⟩ := C0.cs
          have C1 := C0.set1 dt
          have A1 := A0.other (j := w1.heap.size) (by omega) 1 (sV dt)
          have H1 := H0.other (j := w1.heap.size) (by omega) 1 (sV dt)
          have O1 := O0.setNew (j := w1.heap.size) (by omega) 1 (sV dt)
          go_upto_region 19 with (fail)
          generalize hWW : World.setCell _ _ _ = WW at *
          obtain ⟨x0', x1'⟩ := C1.cs
          obtain ⟨y0, y1⟩ := A1.cs
          have z0 := A1.fz 0
          have z1 := A1.fz 1
          have A6 := A1.set2 (nm, dt)
          have H6 := (H1.other (j := w.heap.size) (by omega) 0 (sV nm)).other (j := w.heap.size) (by omega) 1 (sV dt)
          have O6 := (O1.setNew (Nat.le_refl _) 0 (sV nm)).setNew (Nat.le_refl _) 1 (sV dt)
          have Z := Lib.hid (And.intro A6 (And.intro H6 O6))
          clear A6 H6 O6 H1 O1 H0 O0
          go_wp2
          refine bodyPost_ret (v := atV (nm, dt)) (results_cell_row Tryz.results59 _ _ w.heap.size 44 _ (0, 0) _ rfl Z.out.1 Tryz.underlying44 rfl (by kernel_rfl)) rfl ⟨Z.out.2.2, ?_⟩
          have hsum := HS.out
          cases hq : atr (s.drop at0) with
          | none =>
            rw [hq] at hsum
            simp only at hsum
            refine ⟨(nm, dt), at2, rfl, hat2, ?_⟩
            have := Z.out.2.1
            rw [hsum] at this; exact this
          | some x =>
            rw [hq] at hsum
            simp only at hsum
            obtain ⟨g1, g2, g3⟩ := hsum
            refine ⟨by rw [g1], ?_⟩
            have := Z.out.2.1
            rw [g3, g2] at this; exact this
  | false =>
    cases htwo : ([61, 39] : B).isPrefixOf y with
    | true =>
      obtain ⟨t, ht⟩ := pfx_two.1 htwo
      subst ht
      have hdt : s.drop (at1 + 2) = t := by
        rw [← List.drop_drop, HY.out]; rfl
      have hq3 : (61 :: 39 :: t : B).length ≤ s.length := hyl
      simp only [List.length_cons] at hq3 hat1
      have hsl : ∀ W : World, (Instr.slice 9 (sV s) (some (iV ((at1 : Int) + 1))) (some (iV ((at1 : Int) + 2))) none).run Tryz.prog W = .ok (sV [39]) W := fun W => by
        have := cut_both s (at1 + 1) (at1 + 2) (by omega) (by omega) W
        rw [show ((at1 + 1 : Nat) : Int) = (at1 : Int) + 1 by omega, show ((at1 + 2 : Nat) : Int) = (at1 : Int) + 2 by omega] at this
        rw [this]
        congr 3
        rw [List.drop_take, ← List.drop_drop, HY.out]
        simp [show at1 + 2 - (at1 + 1) = 1 by omega]
      obtain ⟨c0, c1, c2, c3, c4, c5⟩ := H4.out.cs
      clear c2 c3 c4 c5
      go_upto_region 7 with (fail)
      go_quiet (fail)
      rename_i nq
      have H5 := H4.out.kept ((Kept.refl w4).drewN nq)
      have A5 := A4.out.kept ((Kept.refl w4).drewN nq)
      have C5 := C4.out.kept ((Kept.refl w4).drewN nq)
      have O5 := O4.out.drewN nq
      generalize w4.drewN nq = W5 at *
      clear H4 A4 C4 O4 c0 c1
      obtain ⟨c0, c1, c2, c3, c4, c5⟩ := H5.cs
      have f1 := H5.fz 1
      have H6 := Lib.hid (H5.setAt (at1 + 2))
      have A6 := Lib.hid (A5.other (j := b) (by omega) 1 (iV ((at1 + 2 : Nat) : Int)))
      have C6 := Lib.hid (C5.other (j := b) (by omega) 1 (iV ((at1 + 2 : Nat) : Int)))
      have O6 := Lib.hid (O5.set 1 (iV ((at1 + 2 : Nat) : Int)))
      clear H5 A5 C5 O5 c2 c3 c4 c5
      go_wp2_with fail
      refine (rupto_any b s [39] (at1 + 2) ov n lv e1 _ H6.out (by omega) hs (by simp) (by simp)).mono ?_
      intro r w7 hU
      obtain ⟨o7, raw, at2, e2, rfl, h7, hc, hat2⟩ := upto_same hU
      rw [hdt] at hc
      have hrl : raw.length ≤ s.length := by
        rcases hc with ⟨u, hu, _⟩ | ⟨_, hr, _⟩
        · have := congrArg List.length (upt_len (by simp) hu).2
          simp only [List.length_append, List.length_cons, List.length_nil] at this
          omega
        · rw [hr]; simp
      have H7 := Lib.hid h7
      have A7 := Lib.hid (A6.out.ob o7 (by omega))
      have C7 := Lib.hid (C6.out.ob o7 (by omega))
      have O7 := Lib.hid (O6.out.trans o7)
      have HC := Lib.hid hc
      clear hU h7 o7 hc H6 A6 C6 O6 f1 c0 c1
      go_wp2_with fail
      go_loopw [8] (fun v wr => ∃ k : Nat, k ≤ raw.length ∧ v = .int .i64 k ∧ Hid (Rd b s at2 ov n lv (if 60 ∈ raw.take k then er1 e2 2 else e2) wr) ∧ Hid (Ba w.heap.size ([], []) wr) ∧ Hid (Ba w1.heap.size (nm, []) wr) ∧ Hid (Ob b w wr)) (fun v _ => raw.length - (intOf v).toNat)
      case atStart => exact ⟨0, Nat.zero_le _, rfl, by rw [if_neg (by simp)]; exact H7, A7, C7, O7⟩
      case round =>
        obtain ⟨k, hk, rfl, hH, hA, hC, hO⟩ := hrel
        clear H7 A7 C7 O7
        by_cases hlt : k < raw.length
        · obtain ⟨a, haa⟩ : ∃ a, raw[k]? = some a := ⟨_, List.getElem?_eq_getElem hlt⟩
          have hat := byte_at raw k a haa
          have HM := Lib.hid (mem60 haa)
          clear haa
          by_cases g60 : (a.toNat : Int) = 60
          · have gb : ((a.toNat : Int) == 60) = true := beq_iff_eq.2 g60
            have ga : a = 60 := u8_eq g60
            clear g60
            go_wp2_with fail
            refine (rfail_any b s at2 ov n lv _ 2 _ hH.out).mono ?_
            rintro r w8 ⟨rfl, h8, o8⟩
            have h8' : Rd b s at2 ov n lv (if 60 ∈ raw.take (k + 1) then er1 e2 2 else e2) w8 := by
              rw [if_pos (HM.out.2 (Or.inr ga))]
              by_cases q : 60 ∈ raw.take k
              · rw [if_pos q, er11] at h8; exact h8
              · rw [if_neg q] at h8; exact h8
            have A8 := Lib.hid (hA.out.ob o8 (by omega))
            have C8 := Lib.hid (hC.out.ob o8 (by omega))
            have O8 := Lib.hid (hO.out.trans o8)
            have H8 := Lib.hid h8'
            clear h8 h8' o8 hH hA hC hO
            go_wp2
            go_roundw
            case rel => exact ⟨k + 1, hlt, by go_num, H8, A8, C8, O8⟩
            case measure => simp [intOf]; omega
          · have gb : ((a.toNat : Int) == 60) = false := beq_eq_false_iff_ne.2 g60
            have H8 : Hid (Rd b s at2 ov n lv (if 60 ∈ raw.take (k + 1) then er1 e2 2 else e2) wr) := Lib.hid (by
              have h := hH.out
              by_cases q : 60 ∈ raw.take k
              · rw [if_pos q] at h; rw [if_pos (HM.out.2 (Or.inl q))]; exact h
              · rw [if_neg q] at h
                rw [if_neg (fun e => (HM.out.1 e).elim q (fun e => g60 (by rw [e]; rfl)))]; exact h)
            clear g60
            go_wp2
            go_roundw
            case rel => exact ⟨k + 1, hlt, by go_num, H8, hA, hC, hO⟩
            case measure => simp [intOf]; omega
        · have hkk : k = raw.length := by omega
          have hH2 := hH.out
          rw [hkk, List.take_length] at hH2
          generalize he3 : (if 60 ∈ raw then er1 e2 2 else e2) = e3 at hH2
          have HE3 := Lib.hid he3.symm
          have H8 := Lib.hid hH2
          clear he3 hH2 hH
          go_wp2_with fail
          refine (rdecode_any raw _ (by omega)).mono ?_
          rintro r w9 ⟨rfl, k9⟩
          have H9 := Lib.hid (H8.out.kept k9)
          have A9 := Lib.hid (hA.out.kept k9)
          have C9 := Lib.hid (hC.out.kept k9)
          have O9 := Lib.hid (hO.out.kept k9)
          clear H8 hA hC hO k9
          have hdl : (deT raw).length ≤ raw.length := by unfold deT; split; exact gone_le raw; simp
          cases hg : (gone raw).2 with
          | true =>
            have hde := deE_of hg
            rw [hde]
            have HS := Lib.hid (atr_sum HN.out (by decide) HE1.out HC.out HE3.out (show e3 = if (gone raw).2 = true then e3 else er1 e3 2 by rw [if_pos hg]))
            have O0 := O9.out
            have C0 := C9.out
            have A0 := A9.out
            have H0 := H9.out
            clear hg hde O9 C9 A9 H9 HE3 HC HE1
            generalize deT raw = dt at *
            have g1 := C0.fz 1
            obtain ⟨x0, x1⟩ := C0.cs
            have C1 := C0.set1 dt
            have A1 := A0.other (j := w1.heap.size) (by omega) 1 (sV dt)
            have H1 := H0.other (j := w1.heap.size) (by omega) 1 (sV dt)
            have O1 := O0.setNew (j := w1.heap.size) (by omega) 1 (sV dt)
            go_upto_region 19 with (fail)
            generalize hWW : World.setCell _ _ _ = WW at *
            obtain ⟨x0', x1'⟩ := C1.cs
            obtain ⟨y0, y1⟩ := A1.cs
            have z0 := A1.fz 0
            have z1 := A1.fz 1
            have A6 := A1.set2 (nm, dt)
            have H6 := (H1.other (j := w.heap.size) (by omega) 0 (sV nm)).other (j := w.heap.size) (by omega) 1 (sV dt)
            have O6 := (O1.setNew (Nat.le_refl _) 0 (sV nm)).setNew (Nat.le_refl _) 1 (sV dt)
            have Z := Lib.hid (And.intro A6 (And.intro H6 O6))
            clear A6 H6 O6 H1 O1 H0 O0
            go_wp2
            refine bodyPost_ret (v := atV (nm, dt)) (results_cell_row Tryz.results59 _ _ w.heap.size 44 _ (0, 0) _ rfl Z.out.1 Tryz.underlying44 rfl (by kernel_rfl)) rfl ⟨Z.out.2.2, ?_⟩
            have hsum := HS.out
            cases hq : atr (s.drop at0) with
            | none =>
              rw [hq] at hsum
              simp only at hsum
              refine ⟨(nm, dt), at2, rfl, hat2, ?_⟩
              have := Z.out.2.1
              rw [hsum] at this; exact this
            | some x =>
              rw [hq] at hsum
              simp only at hsum
              obtain ⟨g1, g2, g3⟩ := hsum
              refine ⟨by rw [g1], ?_⟩
              have := Z.out.2.1
              rw [g3, g2] at this; exact this
          | false =>
            have hde : deE raw = 2 := by unfold deE; rw [hg]; rfl
            rw [hde]
            have HS := Lib.hid (atr_sum (e4 := er1 e3 2) HN.out (by decide) HE1.out HC.out HE3.out (show er1 e3 2 = if (gone raw).2 = true then e3 else er1 e3 2 by rw [hg]; rfl))
            clear hg hde HE3 HC HE1
            go_wp2_with fail
            refine (rfail_any b s at2 ov n lv e3 2 _ H9.out).mono ?_
            rintro r w10 ⟨rfl, H0, o10⟩
            have A0 := A9.out.ob o10 (by omega)
            have C0 := C9.out.ob o10 (by omega)
            have O0 := O9.out.trans o10
            clear H9 A9 C9 O9 o10
            generalize deT raw = dt at *
            have g1 := C0.fz 1
            obtain ⟨x0, x1⟩ := C0.cs
            have C1 := C0.set1 dt
            have A1 := A0.other (j := w1.heap.size) (by omega) 1 (sV dt)
            have H1 := H0.other (j := w1.heap.size) (by omega) 1 (sV dt)
            have O1 := O0.setNew (j := w1.heap.size) (by omega) 1 (sV dt)
            go_upto_region 19 with (fail)
            generalize hWW : World.setCell _ _ _ = WW at *
            obtain ⟨x0', x1'⟩ := C1.cs
            obtain ⟨y0, y1⟩ := A1.cs
            have z0 := A1.fz 0
            have z1 := A1.fz 1
            have A6 := A1.set2 (nm, dt)
            have H6 := (H1.other (j := w.heap.size) (by omega) 0 (sV nm)).other (j := w.heap.size) (by omega) 1 (sV dt)
            have O6 := (O1.setNew (Nat.le_refl _) 0 (sV nm)).setNew (Nat.le_refl _) 1 (sV dt)
            have Z := Lib.hid (And.intro A6 (And.intro H6 O6))
            clear A6 H6 O6 H1 O1 H0 O0
            go_wp2
            refine bodyPost_ret (v := atV (nm, dt)) (results_cell_row Tryz.results59 _ _ w.heap.size 44 _ (0, 0) _ rfl Z.out.1 Tryz.underlying44 rfl (by kernel_rfl)) rfl ⟨Z.out.2.2, ?_⟩
            have hsum := HS.out
            cases hq : atr (s.drop at0) with
            | none =>
              rw [hq] at hsum
              simp only at hsum
              refine ⟨(nm, dt), at2, rfl, hat2, ?_⟩
              have := Z.out.2.1
              rw [hsum] at this; exact this
            | some x =>
              rw [hq] at hsum
              simp only at hsum
              obtain ⟨g1, g2, g3⟩ := hsum
              refine ⟨by rw [g1], ?_⟩
              have := Z.out.2.1
              rw [g3, g2] at this; exact this
    | false =>
      have hno : atr (s.drop at0) = none := atr_no (fun q t e => by
        rw [HN.out] at e
        simp only at e
        rintro (rfl | rfl)
        · rw [pfx_two.2 ⟨t, e⟩] at hone; cases hone
        · rw [pfx_two.2 ⟨t, e⟩] at htwo; cases htwo)
      have HX := Lib.hid hno
      have hr2 : er1 e1 2 = 2 := by
        rw [HE1.out]; split <;> rfl
      clear hno
      go_wp2_with fail
      refine (rfail_any b s at1 ov n lv e1 2 _ H4.out).mono ?_
      rintro r w5 ⟨rfl, h5, o5⟩
      rw [hr2] at h5
      have A5 := A4.out.ob o5 (by omega)
      have C5 := C4.out.ob o5 (by omega)
      have O5 := O4.out.trans o5
      obtain ⟨x0, x1⟩ := C5.cs
      obtain ⟨y0, y1⟩ := A5.cs
      have z0 := A5.fz 0
      have z1 := A5.fz 1
      clear H4 A4 C4 O4 o5
      have A6 := A5.set2 (nm, [])
      have H6 := (h5.other (j := w.heap.size) (by omega) 0 (sV nm)).other (j := w.heap.size) (by omega) 1 (sV [])
      have O6 := (O5.setNew (Nat.le_refl _) 0 (sV nm)).setNew (Nat.le_refl _) 1 (sV [])
      have Z := Lib.hid (And.intro A6 (And.intro H6 O6))
      clear A6 H6 O6 h5 O5
      go_wp2
      refine bodyPost_ret (v := atV (nm, [])) (results_cell_row Tryz.results59 _ _ w.heap.size 44 _ (0, 0) _ rfl Z.out.1 Tryz.underlying44 rfl (by kernel_rfl)) rfl ⟨Z.out.2.2, ?_⟩
      rw [HX.out]
      exact ⟨(nm, []), at1, rfl, hy2, Z.out.2.1⟩
end Go.Proofs.YtknggeplnffegaaGreatDoor
