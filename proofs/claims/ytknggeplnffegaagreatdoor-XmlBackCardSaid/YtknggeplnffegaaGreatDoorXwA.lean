/- Bytes in memory, to be read; conversions of them. -/
import Derived.Test.YtknggeplnffegaaGreatDoorXpJ
import Derived.Laws.IdiomStrings
import Derived.Lib.ConvBytes
set_option linter.unusedVariables false
namespace Go.Proofs.YtknggeplnffegaaGreatDoor
open Go.ChangeShapes Go.WideShapes Go.ChangeAt Go.RowKit
open En Xm
/-- bytes, to be read -/
def BRd (v : Value) (l : B) (w : World) : Prop := ∃ a c, v = .slice a l.length c ∧ (l ≠ [] → ∃ g o, a = some ⟨g, o, none⟩ ∧ l.length ≤ c ∧ ∀ (i : Nat) (x : UInt8), l[i]? = some x → w.cell? ⟨g, o + i, none⟩ = some (.int .u8 x.toNat))
theorem BRd.kept {v : Value} {l : B} {w w' : World} (h : BRd v l w) (k : Kept w w') : BRd v l w' := by
  obtain ⟨a, c, hv, h⟩ := h
  refine ⟨a, c, hv, fun hne => ?_⟩
  obtain ⟨g, o, ha, hc, h⟩ := h hne
  exact ⟨g, o, ha, hc, fun i t ht => k.yes (h i t ht)⟩
theorem BRd.slice {v : Value} {l : B} {w : World} (h : BRd v l w) : ∃ a c, v = .slice a l.length c := by
  obtain ⟨a, c, hv, _⟩ := h
  exact ⟨a, c, hv⟩
theorem conv_none (c : Nat) (w : World) : (convert 22 9 (.slice none 0 c)).run Tryz.prog w = .ok (sV []) w := by kernel_rfl
theorem BRd.conv {v : Value} {l : B} {w : World} (h : BRd v l w) : (convert 22 9 v).run Tryz.prog w = .ok (sV l) w := by
  obtain ⟨a, c, rfl, h⟩ := h
  cases l with
  | nil =>
    cases a with
    | none => exact conv_none c w
    | some a => exact run_convert_bytes_back w _ _ _ a c [] Tryz.underlying22 Tryz.underlying5 Tryz.underlying9 (fun j hj => absurd hj (by simp))
  | cons b l =>
    obtain ⟨g, o, rfl, hc, h⟩ := h (by simp)
    exact run_convert_bytes_back w _ _ _ ⟨g, o, none⟩ c (b :: l) Tryz.underlying22 Tryz.underlying5 Tryz.underlying9 (fun j hj => by rw [Addr.add_lit]; exact h j _ (List.getElem?_eq_getElem hj))
theorem str_app (a b : B) : (⟨a.toArray⟩ ++ ⟨b.toArray⟩ : ByteArray) = ⟨(a ++ b).toArray⟩ := by
  apply ByteArray.ext; simp [ByteArray.data_append]
theorem str_lit (s : B) : (⟨s.toArray⟩ : ByteArray).size = s.length := by simp [ByteArray.size]
/-- bytes of a text -/
theorem to_bytes (s : B) (w : World) : ∃ c w', (convert 9 22 (sV s)).run Tryz.prog w = .ok (.slice (some ⟨w.heap.size, 0, none⟩) s.length c) w' ∧ Kept w w' ∧ BRd (.slice (some ⟨w.heap.size, 0, none⟩) s.length c) s w' := by
  have h := Lib.run_convert_string_bytes (P := Tryz.prog) w 9 22 5 ⟨s.toArray⟩ Tryz.underlying9 Tryz.underlying22 Tryz.underlying5
  rw [str_lit] at h
  refine ⟨_, _, h, ?_, ?_⟩
  · exact ⟨rfl, rfl, by rw [Lib.bytesWorld_size]; omega, fun k hk => Lib.bytesWorld_at_old w _ _ k hk, rfl⟩
  · refine ⟨_, _, rfl, fun _ => ⟨_, _, rfl, grownCap_ge _ _ _ _, fun i x hx => ?_⟩⟩
    have hi : i < s.length := (List.getElem?_eq_some_iff.1 hx).1
    rw [Nat.zero_add, Lib.bytesWorld_cell w _ _ i (by rw [str_lit]; exact hi)]
    simp [List.getD, hx]
theorem kept_row {w y z : World} {row : Option Nat} (k : Kept w y) (hg : y.grownBy z row) (hr : ∀ g, row = some g → w.heap.size ≤ g) : Kept w z :=
  ⟨hg.os.trans k.os, hg.output.trans k.output, Nat.le_trans k.size hg.size, fun j hj => (hg.block j (Nat.lt_of_lt_of_le hj k.size) (fun e => by have := hr j e.symm; omega)).trans (k.block j hj), hg.tape.trans k.tape⟩
theorem grown_cell {y z : World} {row : Option Nat} {a : Addr} {v : Value} (hg : y.grownBy z row) (h : y.cell? a = some v) (hne : row ≠ some a.block) : z.cell? a = some v := by
  have hlt : a.block < y.heap.size := by
    unfold World.cell? at h
    split at h
    · rename_i c e1 e2 hb; exact (Array.getElem?_eq_some_iff.1 hb).1
    · cases h
  have hb := hg.block a.block hlt (Ne.symm hne)
  unfold World.cell? at h ⊢
  rw [hb]
  exact h
end Go.Proofs.YtknggeplnffegaaGreatDoor
