/- Package ent's small functions: signs by their numbers, blanks, and what stands for a sign in an encoded text; a text's pieces; the body of an entity. -/
import Derived.Test.YtpkkpjonlogliaaDoorEnC
import Derived.Test.YtpkkpjonlogliaaDoorEnRn
import Derived.Test.YtpkkpjonlogliaaDoorCut
import Derived.Lib.OthersKept
set_option linter.unusedSimpArgs false
set_option linter.unusedVariables false
namespace Go.Proofs.YtpkkpjonlogliaaDoor
open Go.ChangeShapes Go.WideShapes Go.ChangeAt Go.RowKit
open En
theorem kept_it {w x : World} (h : Below w.heap.size w x) (s : ByteArray) (p : Nat) : Below w.heap.size w (x.iterAt w.heap.size s p) := Lib.below_iterAt h (Nat.le_refl _) s p
theorem byR {r : Nat} : ((r : Int) = 38 ↔ r = 38) ∧ ((r : Int) = 59 ↔ r = 59) := by omega
theorem utf_enc {n : Int} (h : okN n = true) : Utf8.encode n = ⟨(utf n).toArray⟩ := by
  unfold okN at h
  simp only [decide_eq_true_eq] at h
  have hv : Utf8.valid n = true := by unfold Utf8.valid; simp; omega
  unfold Utf8.encode utf by8
  simp only [hv, if_true]
  obtain ⟨m, rfl⟩ : ∃ m : Nat, n = m := ⟨n.toNat, by omega⟩
  simp only [Int.toNat_natCast]
  by_cases h1 : m < 128
  · rw [if_pos h1, if_pos (show (m : Int) < 128 by omega)]
  rw [if_neg h1, if_neg (show ¬ (m : Int) < 128 by omega)]
  by_cases h2 : m < 2048
  · rw [if_pos h2, if_pos (show (m : Int) < 2048 by omega)]
    congr
  rw [if_neg h2, if_neg (show ¬ (m : Int) < 2048 by omega)]
  by_cases h3 : m < 65536
  · rw [if_pos h3, if_pos (show (m : Int) < 65536 by omega)]
    congr
  · rw [if_neg h3, if_neg (show ¬ (m : Int) < 65536 by omega)]
    congr
theorem space_any (c : UInt8) (w : World) : Calls Tryd.prog 42 #[.int .u8 c.toNat] w fun e w' => e = .returned (.bool (spB c)) ∧ w = w' := by
  go_enter Tryd.func42, Tryd.ntmps42
  have h9 : ((c.toNat : Int) == 9) = (c.toNat == 9) := by rw [Bool.eq_iff_iff]; simp; omega
  have h10 : ((c.toNat : Int) == 10) = (c.toNat == 10) := by rw [Bool.eq_iff_iff]; simp; omega
  have h13 : ((c.toNat : Int) == 13) = (c.toNat == 13) := by rw [Bool.eq_iff_iff]; simp; omega
  have h32 : ((c.toNat : Int) == 32) = (c.toNat == 32) := by rw [Bool.eq_iff_iff]; simp; omega
  have HS := Lib.hid (show spB c = (((c.toNat : Int) == 9) || ((c.toNat : Int) == 10) || ((c.toNat : Int) == 13) || ((c.toNat : Int) == 32)) by rw [h9, h10, h13, h32]; rfl)
  clear h9 h10 h13 h32
  go_wp2
  all_goals
    go_ret
    exact ⟨eb_ret (by rw [HS.out]; try simp [*]), rfl⟩
end Go.Proofs.YtpkkpjonlogliaaDoor
