/- The document's own answers of layer ent: blanks; a text encoded. -/
import Derived.Test.YtpkbcomdkamglaaDoorEnBuf
set_option linter.unusedSimpArgs false
set_option linter.unusedVariables false
namespace Go.Proofs.YtpkbcomdkamglaaDoor
open Go.ChangeShapes Go.WideShapes Go.ChangeAt Go.RowKit
open En
theorem rspace_any (c : UInt8) (w : World) : Calls Tryd.prog 14 #[.int .u8 c.toNat] w fun e w' => e = .returned (.bool (spB c)) ∧ w = w' := by
  go_enter Tryd.func14, Tryd.ntmps14
  have h9 : ((c.toNat : Int) == 9) = (c.toNat == 9) := by rw [Bool.eq_iff_iff]; simp; omega
  have h10 : ((c.toNat : Int) == 10) = (c.toNat == 10) := by rw [Bool.eq_iff_iff]; simp; omega
  have h13 : ((c.toNat : Int) == 13) = (c.toNat == 13) := by rw [Bool.eq_iff_iff]; simp; omega
  have h32 : ((c.toNat : Int) == 32) = (c.toNat == 32) := by rw [Bool.eq_iff_iff]; simp; omega
  have HS := Lib.hid (show spB c = (((c.toNat : Int) == 9) || ((c.toNat : Int) == 10) || ((c.toNat : Int) == 13) || ((c.toNat : Int) == 32)) by rw [h9, h10, h13, h32]; rfl)
  clear h9 h10 h13 h32
  go_wp2
  all_goals
    go_ret
    exact ⟨eb_ret (by rw [HS.out]; try simp [*]), rfl⟩
theorem enc_take (l : List UInt8) (k : Nat) (a : UInt8) (h : l[k]? = some a) : enc (l.take (k + 1)) = enc (l.take k) ++ encC a := by
  rw [List.take_add_one, h]; simp [enc]
end Go.Proofs.YtpkbcomdkamglaaDoor
