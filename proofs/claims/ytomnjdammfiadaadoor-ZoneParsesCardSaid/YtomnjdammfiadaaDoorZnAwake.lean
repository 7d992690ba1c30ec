/- The chapter's example: what every law asks first. -/
import Derived.Test.YtomnjdammfiadaaDoorZnParse
namespace Go.Proofs.YtomnjdammfiadaaDoor
open Go.ChangeShapes Go.WideShapes Go.ChangeAt Go.RowKit
open Zn
def zA : Zo := ⟨[67, 69, 84], 3600, true, [67, 69, 83, 84], 7200, ⟨2, 3, 5, 0, 7200⟩, ⟨2, 10, 5, 0, 10800⟩⟩
theorem may_A : mayZ zA = true := by decide
theorem wt_A : wt zA = [67, 69, 84, 45, 49, 67, 69, 83, 84, 44, 77, 51, 46, 53, 46, 48, 44, 77, 49, 48, 46, 53, 46, 48, 47, 51] := by
  have e : ∀ n : Nat, n < 10 → Lib.decDigits n = [UInt8.ofNat (48 + n)] := fun n h => Lib.decDigits_one h
  have e2 : Lib.decDigits 10 = [49, 48] := by rw [Lib.decDigits_two (by omega) (by omega)]; rfl
  simp only [wt, zA, if_true, wtA, rt, rtK, rtA, dec]
  simp only [show (10 : Int).toNat = 10 from rfl, e2, show (3 : Int).toNat = 3 from rfl, show (5 : Int).toNat = 5 from rfl, show (0 : Int).toNat = 0 from rfl, e 3 (by omega), e 5 (by omega), e 0 (by omega)]
  have t1 : tt (-3600) = [45, 49] := by simp only [tt, ttU]; rw [show (Int.natAbs (-3600)) / 3600 = 1 from rfl, e 1 (by omega)]; rfl
  have t2 : tt 10800 = [51] := by simp only [tt, ttU]; rw [show (Int.natAbs 10800) / 3600 = 3 from rfl, e 3 (by omega)]; rfl
  rw [t1, t2]
  decide
theorem prs_A : prs [67, 69, 84, 45, 49, 67, 69, 83, 84, 44, 77, 51, 46, 53, 46, 48, 44, 77, 49, 48, 46, 53, 46, 48, 47, 51] = some zA := by rw [← wt_A]; exact prs_wt may_A
set_option maxRecDepth 100000 in
set_option maxHeartbeats 1000000 in
theorem some_any (w : World) : Calls Tryd.prog 18 #[] w fun e w' => e = .returned (.agg #[.string ⟨#[67, 69, 84]⟩, .int .i64 3600, .bool true, .string ⟨#[67, 69, 83, 84]⟩, .int .i64 7200, .int .i64 2, .int .i64 3, .int .i64 5, .int .i64 0, .int .i64 7200, .int .i64 2, .int .i64 10, .int .i64 5, .int .i64 0, .int .i64 10800]) ∧ Kept w w' := by
  have hb := Lib.hid (new_block w (.cells (zo15 [] 0 false [] 0 0 0 0 0 0 0 0 0 0 0) 25))
  have kb := Lib.hid ((Kept.refl w).alloc (.cells (zo15 [] 0 false [] 0 0 0 0 0 0 0 0 0 0 0) 25))
  go_enter Tryd.func18, Tryd.ntmps18
  go_upto_region 1 with (fail)
  generalize w.alloc (.cells (zo15 [] 0 false [] 0 0 0 0 0 0 0 0 0 0 0) 25) = x at *
  go_wp2_with (refine wpList_store_row rfl 25 _ _ rfl w.heap.size _ rfl rfl 25 _ hb.out (by kernel_rfl) rfl (zo15_one [67, 69, 84] _ _ [67, 69, 83, 84] _ _ _ _ _ _ _ _ _ _ _) ?_)
  exact bodyPost_ret (v := .agg #[.string ⟨#[67, 69, 84]⟩, .int .i64 3600, .bool true, .string ⟨#[67, 69, 83, 84]⟩, .int .i64 7200, .int .i64 2, .int .i64 3, .int .i64 5, .int .i64 0, .int .i64 7200, .int .i64 2, .int .i64 10, .int .i64 5, .int .i64 0, .int .i64 10800]) (results_cell_row Tryd.results18 _ _ w.heap.size 25 _ (0, 0) _ rfl (setRow_heap _ _ _ _ _ _ hb.out) Tryd.underlying25 rfl (by kernel_rfl)) rfl ⟨rfl, kb.out.setRow (Nat.le_refl _) _⟩
theorem heldA {w x x' : World} {b : Nat} (k : Kept x x') (H : Kept w x ∧ b < x.heap.size ∧ x.cell? ⟨b, 0, none⟩ = some (.string ⟨#[67, 69, 84]⟩) ∧ x.cell? ⟨b, 1, none⟩ = some (.int .i64 3600) ∧ x.cell? ⟨b, 2, none⟩ = some (.bool true) ∧ x.cell? ⟨b, 3, none⟩ = some (.string ⟨#[67, 69, 83, 84]⟩) ∧ x.cell? ⟨b, 4, none⟩ = some (.int .i64 7200) ∧ x.cell? ⟨b, 5, none⟩ = some (.int .i64 2) ∧ x.cell? ⟨b, 6, none⟩ = some (.int .i64 3) ∧ x.cell? ⟨b, 7, none⟩ = some (.int .i64 5) ∧ x.cell? ⟨b, 8, none⟩ = some (.int .i64 0) ∧ x.cell? ⟨b, 9, none⟩ = some (.int .i64 7200) ∧ x.cell? ⟨b, 10, none⟩ = some (.int .i64 2) ∧ x.cell? ⟨b, 11, none⟩ = some (.int .i64 10) ∧ x.cell? ⟨b, 12, none⟩ = some (.int .i64 5) ∧ x.cell? ⟨b, 13, none⟩ = some (.int .i64 0) ∧ x.cell? ⟨b, 14, none⟩ = some (.int .i64 10800)) : Kept w x' ∧ b < x'.heap.size ∧ x'.cell? ⟨b, 0, none⟩ = some (.string ⟨#[67, 69, 84]⟩) ∧ x'.cell? ⟨b, 1, none⟩ = some (.int .i64 3600) ∧ x'.cell? ⟨b, 2, none⟩ = some (.bool true) ∧ x'.cell? ⟨b, 3, none⟩ = some (.string ⟨#[67, 69, 83, 84]⟩) ∧ x'.cell? ⟨b, 4, none⟩ = some (.int .i64 7200) ∧ x'.cell? ⟨b, 5, none⟩ = some (.int .i64 2) ∧ x'.cell? ⟨b, 6, none⟩ = some (.int .i64 3) ∧ x'.cell? ⟨b, 7, none⟩ = some (.int .i64 5) ∧ x'.cell? ⟨b, 8, none⟩ = some (.int .i64 0) ∧ x'.cell? ⟨b, 9, none⟩ = some (.int .i64 7200) ∧ x'.cell? ⟨b, 10, none⟩ = some (.int .i64 2) ∧ x'.cell? ⟨b, 11, none⟩ = some (.int .i64 10) ∧ x'.cell? ⟨b, 12, none⟩ = some (.int .i64 5) ∧ x'.cell? ⟨b, 13, none⟩ = some (.int .i64 0) ∧ x'.cell? ⟨b, 14, none⟩ = some (.int .i64 10800) := by
  obtain ⟨h0, hb, h⟩ := H
  have q : ∀ j, x'.cell? ⟨b, j, none⟩ = x.cell? ⟨b, j, none⟩ := fun j => k.cell (a := ⟨b, j, none⟩) hb
  refine ⟨h0.trans k, Nat.lt_of_lt_of_le hb k.size, ?_⟩
  simp only [q]
  exact h
set_option maxRecDepth 100000 in
set_option maxHeartbeats 4000000 in
theorem awake_yes (w : World) (htab : Tab w) : Calls Tryd.prog 9 #[] w fun e w' => e = .returned (.bool true) ∧ Kept w w' := by
  have HT := Lib.hid htab; clear htab
  have hE : ∀ W, (binOp .eql 25 (.agg #[.string ⟨#[67, 69, 84]⟩, .int .i64 3600, .bool true, .string ⟨#[67, 69, 83, 84]⟩, .int .i64 7200, .int .i64 2, .int .i64 3, .int .i64 5, .int .i64 0, .int .i64 7200, .int .i64 2, .int .i64 10, .int .i64 5, .int .i64 0, .int .i64 10800]) (.agg #[.string ⟨#[67, 69, 84]⟩, .int .i64 3600, .bool true, .string ⟨#[67, 69, 83, 84]⟩, .int .i64 7200, .int .i64 2, .int .i64 3, .int .i64 5, .int .i64 0, .int .i64 7200, .int .i64 2, .int .i64 10, .int .i64 5, .int .i64 0, .int .i64 10800])).run Tryd.prog W = .ok (.bool true) W := fun W => (eql_zone zA zA W).trans (by rw [zoE_refl])
  go_enter Tryd.func9, Tryd.ntmps9
  go_wp2_with fail
  refine (parse_any [67, 69, 84, 45, 49, 67, 69, 83, 84, 44, 77, 51, 46, 53, 46, 48, 44, 77, 49, 48, 46, 53, 46, 48, 47, 51] _ (by decide) HT.out).mono ?_
  intro e w1 hp
  rw [prs_A] at hp
  obtain ⟨rfl, k1⟩ := hp
  have KN := Lib.hid (Kept.refl (w1.alloc (.cells #[.string ⟨#[67, 69, 84]⟩, .int .i64 3600, .bool true, .string ⟨#[67, 69, 83, 84]⟩, .int .i64 7200, .int .i64 2, .int .i64 3, .int .i64 5, .int .i64 0, .int .i64 7200, .int .i64 2, .int .i64 10, .int .i64 5, .int .i64 0, .int .i64 10800] 25)))
  have C := Lib.hid (Cs.of_new (z := zA) KN.out)
  have K1 := Lib.hid (k1.trans KN.out.back); clear k1 KN
  have LT := Lib.hid (show w1.heap.size < (w1.alloc (.cells #[.string ⟨#[67, 69, 84]⟩, .int .i64 3600, .bool true, .string ⟨#[67, 69, 83, 84]⟩, .int .i64 7200, .int .i64 2, .int .i64 3, .int .i64 5, .int .i64 0, .int .i64 7200, .int .i64 2, .int .i64 10, .int .i64 5, .int .i64 0, .int .i64 10800] 25)).heap.size by simp)
  simp only [zA]
  go_wp2_with fail
  generalize w1.alloc (.cells #[.string ⟨#[67, 69, 84]⟩, .int .i64 3600, .bool true, .string ⟨#[67, 69, 83, 84]⟩, .int .i64 7200, .int .i64 2, .int .i64 3, .int .i64 5, .int .i64 0, .int .i64 7200, .int .i64 2, .int .i64 10, .int .i64 5, .int .i64 0, .int .i64 10800] 25) = x1 at *
  generalize w1.heap.size = b at *
  refine (some_any _).mono ?_
  rintro e x2 ⟨rfl, k2⟩
  have C2 := Lib.hid (C.out.kept k2 LT.out)
  have K2 := Lib.hid (K1.out.trans k2)
  have L2 := Lib.hid (Nat.lt_of_lt_of_le LT.out k2.size)
  clear k2 C K1 LT
  go_wp2_with fail
  refine (write_yes zA _ may_A (K2.out.tab' HT.out)).mono ?_
  rintro e x3 ⟨rfl, k3⟩
  rw [wt_A]
  have C3 := C2.out.kept k3 L2.out
  have K3 := K2.out.trans k3
  have L3 := Nat.lt_of_lt_of_le L2.out k3.size
  clear k3 C2 K2 L2
  obtain ⟨c0, c1, c2, c3, c4, c5, c6, c7, c8, c9, c10, c11, c12, c13, c14⟩ := C3
  go_wp2_with fail
  go_region_held3 (fun y => Kept w y ∧ b < y.heap.size ∧ y.cell? ⟨b, 0, none⟩ = some (.string ⟨#[67, 69, 84]⟩) ∧ y.cell? ⟨b, 1, none⟩ = some (.int .i64 3600) ∧ y.cell? ⟨b, 2, none⟩ = some (.bool true) ∧ y.cell? ⟨b, 3, none⟩ = some (.string ⟨#[67, 69, 83, 84]⟩) ∧ y.cell? ⟨b, 4, none⟩ = some (.int .i64 7200) ∧ y.cell? ⟨b, 5, none⟩ = some (.int .i64 2) ∧ y.cell? ⟨b, 6, none⟩ = some (.int .i64 3) ∧ y.cell? ⟨b, 7, none⟩ = some (.int .i64 5) ∧ y.cell? ⟨b, 8, none⟩ = some (.int .i64 0) ∧ y.cell? ⟨b, 9, none⟩ = some (.int .i64 7200) ∧ y.cell? ⟨b, 10, none⟩ = some (.int .i64 2) ∧ y.cell? ⟨b, 11, none⟩ = some (.int .i64 10) ∧ y.cell? ⟨b, 12, none⟩ = some (.int .i64 5) ∧ y.cell? ⟨b, 13, none⟩ = some (.int .i64 0) ∧ y.cell? ⟨b, 14, none⟩ = some (.int .i64 10800)) (first | exact heldA (by assumption) (by assumption) | assumption | exact ⟨K3.drew, L3, c0, c1, c2, c3, c4, c5, c6, c7, c8, c9, c10, c11, c12, c13, c14⟩)
    (first | (go_at_call 18; refine (some_any _).mono ?_; rintro e w' ⟨rfl, hk'⟩)
           | (go_at_call 13; refine (may_any zA _).mono ?_; rintro e w' ⟨rfl, hk'⟩))
  have hK := (‹Kept w w' ∧ _›).1
  go_wp2
  go_ret
  exact ⟨ret_bool may_A, hK⟩
end Go.Proofs.YtomnjdammfiadaaDoor
