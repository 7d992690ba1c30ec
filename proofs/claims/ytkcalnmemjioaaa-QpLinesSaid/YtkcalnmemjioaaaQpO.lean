/- What the arguments of package qp's laws read as; that they read so behind the call. -/
import Derived.Test.YtkcalnmemjioaaaRows
import Derived.Test.YtkcalnmemjioaaaQpB
import Derived.OpenShut
import Derived.ChangeMaps5
import Derived.Carry
import Derived.ChangeSlices
set_option linter.unusedSimpArgs false
set_option linter.unusedVariables false
namespace Go.Proofs.Ytkcalnmemjioaaa
open Go.ChangeShapes Go.WideShapes Go.ChangeAt Go.RowKit
theorem toList_mk (s : ByteArray) : ⟨s.data.toList.toArray⟩ = s := by simp
theorem open_str {H : Type} {enc : TypeId × Value → H} {w : World} {base : Nat} {spare : Nat → Bool} {held : Bool} {r : Reach} {b0 : Nat} {v : Value} {d : DataW H} {p : List MemPlace}
    (hval : Value.okWide Try.prog w r b0 9 v) (h : DataW.Trod enc Try.prog w base spare held 9 v d p) :
    ∃ l : List UInt8, v = .string ⟨l.toArray⟩ ∧ d = .lit (.string l) ∧ p = [] ∧ l.length ≤ maxLen := by
  obtain ⟨s, rfl, rfl, rfl, z⟩ := Go.ChangeMaps.open_string Try.underlying9 hval h
  exact ⟨s.data.toList, by rw [toList_mk], rfl, rfl, by simpa using z⟩
theorem shut_str {H : Type} {enc : TypeId × Value → H} {w : World} {base : Nat} {spare : Nat → Bool} {held : Bool} {l : List UInt8} (z : l.length ≤ maxLen) :
    DataW.Trod enc Try.prog w base spare held 9 (.string ⟨l.toArray⟩) (.lit (.string l)) [] := by
  have := Go.ChangeMaps.shut_string (enc := enc) (w := w) (base := base) (sp := spare) (held := held) (s := ⟨l.toArray⟩) Try.underlying9 z
  simpa using this
variable {H : Type} {enc : TypeId × Value → H} {w : World} {base : Nat} {spare : Nat → Bool} {held : Bool}
theorem cellsB1 : Try.prog.cellsOf 5 = 1 := by kernel_rfl
theorem laidOutB8 : laidOutB Try.prog = true := by kernel_rfl
set_option maxRecDepth 100000 in
theorem open_brd {n : Nat} {c : Value} {x : DataW H × List MemPlace} (h : DataW.trod enc Try.prog w base spare held n 22 [c] = some x) : ∃ l, BRd c l w ∧ l.length ≤ maxLen := by
  rcases open_ints Try.underlying22 Try.underlying5 cellsB1 h with ⟨hc, _⟩ | ⟨a, len, cap, zs, hc, hb, hl, hm, hlen, hx, hcell, hwf⟩
  · obtain rfl : c = .slice none 0 0 := by simpa using hc
    exact ⟨[], ⟨none, 0, rfl, fun _ => rfl, fun h => absurd rfl h⟩, Nat.zero_le _⟩
  · obtain rfl : c = .slice (some a) len cap := by simpa using hc
    have hz : len ≤ zs.length := by rw [hlen]; split <;> omega
    have hlz : ((zs.take len).map fun z => UInt8.ofNat z.toNat).length = len := by rw [List.length_map, List.length_take, Nat.min_eq_left hz]
    refine ⟨(zs.take len).map fun z => UInt8.ofNat z.toNat, ⟨some a, cap, by rw [hlz], fun e => (by cases e), fun hne => ?_⟩, by rw [hlz]; omega⟩
    have h0 : 0 < len := by
      rcases Nat.eq_zero_or_pos len with q | q
      · exact absurd (List.length_eq_zero_iff.1 (hlz.trans q)) hne
      · exact q
    have hlt := hcell 0 (by omega)
    obtain ⟨b, o, sp⟩ := a
    have hspot : sp = none := by simpa [Addr.add] using World.cell?_spot hlt
    subst hspot
    refine ⟨b, o, rfl, by rw [hlz]; exact hl, fun i y hy => ?_⟩
    have hi : i < len := by
      have := (List.getElem?_eq_some_iff.1 hy).1
      rwa [hlz] at this
    have hz2 : zs[i]? = some (zs.getD i 0) := by
      rw [List.getD_eq_getElem?_getD, List.getElem?_eq_getElem (by omega)]; rfl
    rw [List.getElem?_map, List.getElem?_take, if_pos hi, hz2] at hy
    simp only [Option.map_some, Option.some.injEq] at hy
    have hw := hwf _ (List.mem_of_getElem? hz2)
    have hb : 0 ≤ zs.getD i 0 ∧ zs.getD i 0 ≤ 255 := by simpa [Lit.wf, IntKind.min, IntKind.max, IntKind.signed, IntKind.bits] using hw
    have hq := hcell i (by omega)
    rw [Addr.add_lit] at hq
    rw [hq, ← hy, UInt8.toNat_ofNat']
    congr 2
    omega
set_option maxRecDepth 100000 in
theorem open_bytes8 {r : Reach} {b0 : Nat} {v : Value} {d : DataW H} {p : List MemPlace}
    (hval : Value.okWide Try.prog w r b0 22 v) (h : DataW.Trod enc Try.prog w base spare held 22 v d p) : ∃ l, BRd v l w ∧ l.length ≤ maxLen := by
  obtain ⟨ad, len, cap, rfl⟩ := okWide_slice Try.underlying22 hval
  obtain ⟨fuel, hf⟩ := h
  exact open_brd (show DataW.trod enc Try.prog w base spare held fuel 22 [Value.slice ad len cap] = some (d, p) from hf)
/-- an argument reads behind the call as it did -/
theorem shut_bytes8 {W W' : World} {v : Value} {d : DataW H} {ps before : List MemPlace} (h : DataW.Trod enc Try.prog W 0 (fun _ => true) true 22 v d ps) (k : Kept W W') (hlt : ∀ x ∈ before, x.block < W.heap.size) (hsub : ∀ x ∈ ps, x ∈ before) {sp : Nat → Bool} (hsp : ∀ p ∈ before, sp p.block = true) :
    DataW.Trod enc Try.prog W' 0 sp true 22 v d ps :=
  WideElems.Trod_stays laidOutB8 (by kernel_rfl) (of_decide_eq_true (by kernel_rfl)) h (fun x hx => (k.below (Nat.le_refl _)).same (hlt x (hsub x hx))) (fun x hx => hsp x (hsub x hx))
end Go.Proofs.Ytkcalnmemjioaaa
