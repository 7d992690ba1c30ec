/- Pieces of texts, by two places, from one, up to one. -/
import Derived.Test.YtpkbcomdkamglaaDoorEnBuf
import Derived.Lib.OthersKept
set_option linter.unusedSimpArgs false
set_option linter.unusedVariables false
namespace Go.Proofs.YtpkbcomdkamglaaDoor
open Go.ChangeShapes Go.WideShapes Go.ChangeAt Go.RowKit
theorem ext_of (l : List UInt8) (a b : Nat) : (ByteArray.mk l.toArray).extract a b = ⟨((l.take b).drop a).toArray⟩ := by
  apply ByteArray.ext
  rw [ByteArray.data_extract]
  simp [List.drop_take]
theorem cut_both (l : List UInt8) (a b : Nat) (h1 : a ≤ b) (h2 : b ≤ l.length) (W : World) :
    (Instr.slice 9 (.string ⟨l.toArray⟩) (some (.int .i64 a)) (some (.int .i64 b)) none).run Tryd.prog W = .ok (.string ⟨((l.take b).drop a).toArray⟩) W := by
  rw [run_slice_string W 9 _ .i64 .i64 _ _ Tryd.underlying9 (by omega) (by omega) (by show (b : Int) ≤ l.length; omega)]
  rw [show (a : Int).toNat = a by omega, show (b : Int).toNat = b by omega, ext_of]
theorem cut_from (l : List UInt8) (x : Int) (a : Nat) (hx : x = a) (h1 : a ≤ l.length) (W : World) :
    (Instr.slice 9 (.string ⟨l.toArray⟩) (some (.int .i64 x)) none none).run Tryd.prog W = .ok (.string ⟨(l.drop a).toArray⟩) W := by
  subst hx
  have hs : (ByteArray.mk l.toArray).size = l.length := List.size_toArray
  rw [run_slice_string_l W 9 _ Tryd.underlying9 .i64 _ (by omega) (by rw [hs]; omega), hs]
  rw [show (a : Int).toNat = a by omega, ext_of, List.take_length]
theorem cut_to (l : List UInt8) (b : Nat) (h1 : b ≤ l.length) (W : World) :
    (Instr.slice 9 (.string ⟨l.toArray⟩) none (some (.int .i64 b)) none).run Tryd.prog W = .ok (.string ⟨(l.take b).toArray⟩) W := by
  have hs : (ByteArray.mk l.toArray).size = l.length := List.size_toArray
  rw [run_slice_string_h W 9 _ Tryd.underlying9 .i64 _ (by omega) (by rw [hs]; omega)]
  rw [show (b : Int).toNat = b by omega, ext_of, List.drop_zero]
end Go.Proofs.YtpkbcomdkamglaaDoor
