/- Contracts of package cron: the five fields. -/
import Derived.Test.YtcmdjpgabkjbpaaGreatDoorCrPart
set_option linter.unusedVariables false
namespace Go.Proofs.YtcmdjpgabkjbpaaGreatDoor
open Go.ChangeShapes Go.WideShapes Go.ChangeAt Go.RowKit
open Crn
theorem new_block (w : World) (o : Obj) : (w.alloc o).heap[w.heap.size]? = some o := by show (w.heap.push o)[w.heap.size]? = _; simp
theorem Kept.setRow {w x : World} (h : Kept w x) {g : Nat} (hg : w.heap.size ≤ g) (cs : Array Value) : Kept w (x.setRow g cs) :=
  ⟨h.os, h.output, by simpa using h.size, fun k hk => (setRow_other _ _ _ _ (by omega)).trans (h.block k hk), h.tape⟩
abbrev fldsV : Value := .agg #[.int .i64 0, .int .i64 59, .int .i64 59, .string ⟨#[]⟩, .int .i64 0, .int .i64 23, .int .i64 23, .string ⟨#[]⟩, .int .i64 1, .int .i64 31, .int .i64 31, .string ⟨#[]⟩, .int .i64 1, .int .i64 12, .int .i64 12, .string ⟨#[106, 97, 110, 102, 101, 98, 109, 97, 114, 97, 112, 114, 109, 97, 121, 106, 117, 110, 106, 117, 108, 97, 117, 103, 115, 101, 112, 111, 99, 116, 110, 111, 118, 100, 101, 99]⟩, .int .i64 0, .int .i64 6, .int .i64 7, .string ⟨#[115, 117, 110, 109, 111, 110, 116, 117, 101, 119, 101, 100, 116, 104, 117, 102, 114, 105, 115, 97, 116]⟩]
theorem index_fld (W : World) (i : Nat) (hi : i < 5) : (Instr.index 58 fldsV (.int .i64 (i : Int))).run Tryz.prog W = .ok (fld i) W := by
  rcases (show i = 0 ∨ i = 1 ∨ i = 2 ∨ i = 3 ∨ i = 4 by omega) with rfl | rfl | rfl | rfl | rfl <;> kernel_rfl
set_option maxRecDepth 100000 in
set_option maxHeartbeats 1000000 in
theorem fields_any (w : World) : Calls Tryz.prog 40 #[] w fun e w' => e = .returned fldsV ∧ Kept w w' := by
  have hb := Lib.hid (new_block w (.cells #[Value.int .i64 0, .int .i64 0, .int .i64 0, .string ⟨#[]⟩, Value.int .i64 0, .int .i64 0, .int .i64 0, .string ⟨#[]⟩, Value.int .i64 0, .int .i64 0, .int .i64 0, .string ⟨#[]⟩, Value.int .i64 0, .int .i64 0, .int .i64 0, .string ⟨#[]⟩, Value.int .i64 0, .int .i64 0, .int .i64 0, .string ⟨#[]⟩] 58))
  have kb := Lib.hid ((Kept.refl w).alloc (.cells #[Value.int .i64 0, .int .i64 0, .int .i64 0, .string ⟨#[]⟩, Value.int .i64 0, .int .i64 0, .int .i64 0, .string ⟨#[]⟩, Value.int .i64 0, .int .i64 0, .int .i64 0, .string ⟨#[]⟩, Value.int .i64 0, .int .i64 0, .int .i64 0, .string ⟨#[]⟩, Value.int .i64 0, .int .i64 0, .int .i64 0, .string ⟨#[]⟩] 58))
  go_enter Tryz.func40, Tryz.ntmps40
  go_upto_region 1 with (fail)
  generalize w.alloc (.cells #[Value.int .i64 0, .int .i64 0, .int .i64 0, .string ⟨#[]⟩, Value.int .i64 0, .int .i64 0, .int .i64 0, .string ⟨#[]⟩, Value.int .i64 0, .int .i64 0, .int .i64 0, .string ⟨#[]⟩, Value.int .i64 0, .int .i64 0, .int .i64 0, .string ⟨#[]⟩, Value.int .i64 0, .int .i64 0, .int .i64 0, .string ⟨#[]⟩] 58) = x at *
  go_wp2_with (refine wpList_store_row rfl 58 _ _ rfl w.heap.size _ rfl rfl 58 _ hb.out (by kernel_rfl) rfl (by simp [Value.oneCell']) ?_)
  exact bodyPost_ret (v := fldsV) (results_cell_row Tryz.results40 _ _ w.heap.size 58 _ (0, 0) _ rfl (setRow_heap _ _ _ _ _ _ hb.out) Tryz.underlying58 rfl (by kernel_rfl)) rfl ⟨rfl, kb.out.setRow (Nat.le_refl _) _⟩
end Go.Proofs.YtcmdjpgabkjbpaaGreatDoor
