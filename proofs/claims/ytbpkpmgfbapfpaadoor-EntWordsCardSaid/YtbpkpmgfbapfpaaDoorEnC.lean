/- Package ent's contracts, in plain words, over what is said of a world (a table that lies there, say). -/
import Derived.Test.YtbpkpmgfbapfpaaDoorEnBuf
set_option linter.unusedVariables false
namespace Go.Proofs.YtbpkpmgfbapfpaaDoor
open Go.ChangeShapes Go.WideShapes Go.ChangeAt Go.RowKit
open En
/-- Decode's text and error -/
def deT (l : List UInt8) : List UInt8 := if (gone l).2 = true then (gone l).1 else []
def deE (l : List UInt8) : Int := if (gone l).2 = true then 0 else 2
theorem deE_bd (l : List UInt8) : 0 ≤ deE l ∧ deE l ≤ 2 := by unfold deE; split <;> omega
theorem deE_ok {l : List UInt8} (h : deE l = 0) : (gone l).2 = true := by
  unfold deE at h; split at h
  · assumption
  · cases h
theorem deT_ok {l : List UInt8} (h : (gone l).2 = true) : deT l = (gone l).1 := by unfold deT; rw [if_pos h]
theorem deE_of {l : List UInt8} (h : (gone l).2 = true) : deE l = 0 := by unfold deE; rw [if_pos h]
/-- a number's sign, or nothing -/
def rnS (n : Int) : List UInt8 := (rn n).getD []
/-- what is said of a world stays -/
def Stays (I : World → Prop) : Prop := ∀ w w', I w → Kept w w' → I w'
def DecodeC (I : World → Prop) : Prop := ∀ (l : List UInt8) (w : World), I w → l.length ≤ 4000 → Calls Tryd.prog 10 #[.string ⟨l.toArray⟩] w fun e w' => e = .returned (.tuple #[.string ⟨(deT l).toArray⟩, .int .i64 (deE l)]) ∧ Kept w w'
def LooseC (I : World → Prop) : Prop := ∀ (l : List UInt8) (w : World), I w → l.length ≤ 4000 → Calls Tryd.prog 15 #[.string ⟨l.toArray⟩] w fun e w' => e = .returned (.string ⟨(gone l).1.toArray⟩) ∧ Kept w w'
def EncodeC (I : World → Prop) : Prop := ∀ (l : List UInt8) (w : World), I w → l.length ≤ 4000 → Calls Tryd.prog 17 #[.string ⟨l.toArray⟩] w fun e w' => e = .returned (.string ⟨(enc l).toArray⟩) ∧ Kept w w'
def RuneC (I : World → Prop) : Prop := ∀ (n : Int) (w : World), I w → -9223372036854775808 ≤ n → n ≤ 9223372036854775807 → Calls Tryd.prog 12 #[.int .i64 n] w fun e w' => e = .returned (.tuple #[.string ⟨(rnS n).toArray⟩, .bool (okN n)]) ∧ Kept w w'
def TrimC (I : World → Prop) : Prop := ∀ (l : List UInt8) (w : World), I w → l.length ≤ 4000 → Calls Tryd.prog 19 #[.string ⟨l.toArray⟩] w fun e w' => e = .returned (.string ⟨(tr l).toArray⟩) ∧ Kept w w'
def SpaceC (I : World → Prop) : Prop := ∀ (c : UInt8) (w : World), I w → Calls Tryd.prog 21 #[.int .u8 c.toNat] w fun e w' => e = .returned (.bool (spB c)) ∧ Kept w w'
structure EntC (I : World → Prop) : Prop where
  stays : Stays I
  decode : DecodeC I
  loose : LooseC I
  encode : EncodeC I
  rune : RuneC I
  trim : TrimC I
  space : SpaceC I
end Go.Proofs.YtbpkpmgfbapfpaaDoor
