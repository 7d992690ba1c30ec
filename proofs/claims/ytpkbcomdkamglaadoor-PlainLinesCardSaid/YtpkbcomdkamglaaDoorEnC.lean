/- Words of package ent's answers (for later layers; without the contracts as premises). -/
import Derived.Test.YtpkbcomdkamglaaDoorEnBuf
set_option linter.unusedSimpArgs false
set_option linter.unusedVariables false
namespace Go.Proofs.YtpkbcomdkamglaaDoor
open Go.ChangeShapes Go.WideShapes Go.ChangeAt Go.RowKit
open En
/-- Decode's text and error -/
def deT (l : List UInt8) : List UInt8 := if (gone l).2 = true then (gone l).1 else []
def deE (l : List UInt8) : Int := if (gone l).2 = true then 0 else 2
theorem deE_bd (l : List UInt8) : 0 ≤ deE l ∧ deE l ≤ 2 := by unfold deE; split <;> omega
theorem deE_ok {l : List UInt8} (h : deE l = 0) : (gone l).2 = true := by
  unfold deE at h; split at h
  · assumption
  · cases h
theorem deT_ok {l : List UInt8} (h : (gone l).2 = true) : deT l = (gone l).1 := by unfold deT; rw [if_pos h]
theorem deE_of {l : List UInt8} (h : (gone l).2 = true) : deE l = 0 := by unfold deE; rw [if_pos h]
/-- a number's sign, or nothing -/
def rnS (n : Int) : List UInt8 := (rn n).getD []
end Go.Proofs.YtpkbcomdkamglaaDoor
