/- What the arguments of package ent's laws read as. -/
import Derived.Test.YtpkbcomdkamglaaDoorRows
import Derived.Test.YtpkbcomdkamglaaDoorKept
import Derived.OpenShut
import Derived.ChangeMaps5
set_option linter.unusedSimpArgs false
set_option linter.unusedVariables false
namespace Go.Proofs.YtpkbcomdkamglaaDoor
open Go.ChangeShapes Go.WideShapes Go.ChangeAt Go.RowKit
theorem i64_bd {n : Int} (h : (Lit.int .i64 n).wf = true) : -9223372036854775808 ≤ n ∧ n ≤ 9223372036854775807 := by
  simpa [Lit.wf, IntKind.min, IntKind.max, IntKind.signed, IntKind.bits] using h
theorem toList_mk (s : ByteArray) : ⟨s.data.toList.toArray⟩ = s := by simp
set_option maxRecDepth 100000 in
theorem open_str {H : Type} {enc : TypeId × Value → H} {w : World} {base : Nat} {spare : Nat → Bool} {held : Bool} {r : Reach} {b0 : Nat} {v : Value} {d : DataW H} {p : List MemPlace}
    (hval : Value.okWide Tryd.prog w r b0 9 v) (h : DataW.Trod enc Tryd.prog w base spare held 9 v d p) :
    ∃ l : List UInt8, v = .string ⟨l.toArray⟩ ∧ d = .lit (.string l) ∧ p = [] ∧ l.length ≤ maxLen := by
  obtain ⟨s, rfl, rfl, rfl, z⟩ := Go.ChangeMaps.open_string Tryd.underlying9 hval h
  exact ⟨s.data.toList, by rw [toList_mk], rfl, rfl, by simpa using z⟩
set_option maxRecDepth 100000 in
theorem shut_str {H : Type} {enc : TypeId × Value → H} {w : World} {base : Nat} {spare : Nat → Bool} {held : Bool} {l : List UInt8} (z : l.length ≤ maxLen) :
    DataW.Trod enc Tryd.prog w base spare held 9 (.string ⟨l.toArray⟩) (.lit (.string l)) [] := by
  have := Go.ChangeMaps.shut_string (enc := enc) (w := w) (base := base) (sp := spare) (held := held) (s := ⟨l.toArray⟩) Tryd.underlying9 z
  simpa using this
set_option maxRecDepth 100000 in
theorem open_byte {H : Type} {enc : TypeId × Value → H} {w : World} {base : Nat} {spare : Nat → Bool} {held : Bool} {r : Reach} {b0 : Nat} {v : Value} {d : DataW H} {p : List MemPlace}
    (hval : Value.okWide Tryd.prog w r b0 5 v) (h : DataW.Trod enc Tryd.prog w base spare held 5 v d p) :
    ∃ c : UInt8, v = .int .u8 c.toNat ∧ d = .lit (.int .u8 c.toNat) ∧ p = [] ∧ (Lit.int .u8 (c.toNat : Int)).wf = true := by
  obtain ⟨n, rfl, rfl, rfl, z⟩ := open_int Tryd.underlying5 hval h
  have hb : 0 ≤ n ∧ n ≤ 255 := by simpa [Lit.wf, IntKind.min, IntKind.max, IntKind.signed, IntKind.bits] using z
  have e : ((UInt8.ofNat n.toNat).toNat : Int) = n := by rw [UInt8.toNat_ofNat']; omega
  exact ⟨UInt8.ofNat n.toNat, by rw [e], by rw [e], rfl, by rw [e]; exact z⟩
end Go.Proofs.YtpkbcomdkamglaaDoor
