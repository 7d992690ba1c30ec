/- The document's own answers of layer ent: a number's sign. -/
import Derived.Test.YtpkbcomdkamglaaGreatDoorEnRefC
import Derived.Test.YtpkbcomdkamglaaGreatDoorEnC
set_option linter.unusedSimpArgs false
set_option linter.unusedVariables false
namespace Go.Proofs.YtpkbcomdkamglaaGreatDoor
open Go.ChangeShapes Go.WideShapes Go.ChangeAt Go.RowKit
open En
theorem by8_nat {n : Int} (h0 : 0 ≤ n) (h1 : n < 256) : ((by8 n).toNat : Int) = n := by
  unfold by8
  rw [UInt8.toNat_ofNat']
  omega
theorem conv_lit (W : World) (l : List UInt8) : (convert 34 9 (.slice (some ⟨W.heap.size, 0, none⟩) l.length l.length)).run Tryz.prog (W.alloc (.cells (bc l).toArray 5)) = .ok (.string ⟨l.toArray⟩) (W.alloc (.cells (bc l).toArray 5)) := by
  refine run_convert_bytes_back _ _ _ 5 ⟨W.heap.size, 0, none⟩ l.length l Tryz.underlying34 Tryz.underlying5 Tryz.underlying9 (fun j hj => ?_)
  have ha : ((⟨W.heap.size, 0, none⟩ : Addr).add j) = ⟨W.heap.size, j, none⟩ := by simp [Addr.add]; omega
  rw [ha, World.cell?_alloc_mark]
  simp [bc, hj]
set_option maxRecDepth 100000 in
set_option maxHeartbeats 4000000 in
theorem rrune_any (n : Int) (w : World) : Calls Tryz.prog 72 #[.int .i64 n] w fun e w' => e = .returned (.tuple #[.string ⟨(rnS n).toArray⟩, .bool (okN n)]) ∧ Kept w w' := by
  rcases (show n < 9 ∨ n = 9 ∨ n = 10 ∨ (11 ≤ n ∧ n ≤ 12) ∨ n = 13 ∨ (14 ≤ n ∧ n ≤ 31) ∨ (32 ≤ n ∧ n < 128) ∨ (128 ≤ n ∧ n < 2048) ∨ (2048 ≤ n ∧ n ≤ 55295) ∨ (55296 ≤ n ∧ n ≤ 57343) ∨ (57344 ≤ n ∧ n ≤ 65533) ∨ (65534 ≤ n ∧ n ≤ 65535) ∨ (65536 ≤ n ∧ n ≤ 1114111) ∨ 1114112 ≤ n by omega) with h | h | h | h | h | h | h | h | h | h | h | h | h | h
  · have HK := Lib.hid (show okN n = false by unfold okN; simp; omega)
    have b0 : (n == 9) = false := by simp; omega
    have b1 : (n == 10) = false := by simp; omega
    have b2 : (n == 13) = false := by simp; omega
    have c0 : decide (32 ≤ n) = false := by simp; omega
    have c1 : decide (57344 ≤ n) = false := by simp; omega
    have c2 : decide (65536 ≤ n) = false := by simp; omega
    have c3 : decide (n ≤ 55295) = true := by simp; omega
    have c4 : decide (n ≤ 65533) = true := by simp; omega
    have c5 : decide (n ≤ 1114111) = true := by simp; omega
    have HS := Lib.hid (show rnS n = [] by unfold rnS rn; rw [HK.out]; rfl)
    clear h
    go_enter Tryz.func72, Tryz.ntmps72
    go_wp2
    go_ret2
    exact ⟨by rw [HS.out, HK.out]; rfl, Kept.refl _⟩
  · subst h
    have hcv : ∀ W : World, (convert 34 9 (.slice (some ⟨W.heap.size, 0, none⟩) 1 1)).run Tryz.prog (W.alloc (.cells #[.int .u8 9] 5)) = .ok (.string ⟨#[9]⟩) (W.alloc (.cells #[.int .u8 9] 5)) := fun W => conv_lit W [9]
    go_enter Tryz.func72, Tryz.ntmps72
    go_wp2
    go_ret2
    exact ⟨rfl, (Kept.refl _).alloc _⟩
  · subst h
    have hcv : ∀ W : World, (convert 34 9 (.slice (some ⟨W.heap.size, 0, none⟩) 1 1)).run Tryz.prog (W.alloc (.cells #[.int .u8 10] 5)) = .ok (.string ⟨#[10]⟩) (W.alloc (.cells #[.int .u8 10] 5)) := fun W => conv_lit W [10]
    go_enter Tryz.func72, Tryz.ntmps72
    go_wp2
    go_ret2
    exact ⟨rfl, (Kept.refl _).alloc _⟩
  · have HK := Lib.hid (show okN n = false by unfold okN; simp; omega)
    have b0 : (n == 9) = false := by simp; omega
    have b1 : (n == 10) = false := by simp; omega
    have b2 : (n == 13) = false := by simp; omega
    have c0 : decide (32 ≤ n) = false := by simp; omega
    have c1 : decide (57344 ≤ n) = false := by simp; omega
    have c2 : decide (65536 ≤ n) = false := by simp; omega
    have c3 : decide (n ≤ 55295) = true := by simp; omega
    have c4 : decide (n ≤ 65533) = true := by simp; omega
    have c5 : decide (n ≤ 1114111) = true := by simp; omega
    have HS := Lib.hid (show rnS n = [] by unfold rnS rn; rw [HK.out]; rfl)
    clear h
    go_enter Tryz.func72, Tryz.ntmps72
    go_wp2
    go_ret2
    exact ⟨by rw [HS.out, HK.out]; rfl, Kept.refl _⟩
  · subst h
    have hcv : ∀ W : World, (convert 34 9 (.slice (some ⟨W.heap.size, 0, none⟩) 1 1)).run Tryz.prog (W.alloc (.cells #[.int .u8 13] 5)) = .ok (.string ⟨#[13]⟩) (W.alloc (.cells #[.int .u8 13] 5)) := fun W => conv_lit W [13]
    go_enter Tryz.func72, Tryz.ntmps72
    go_wp2
    go_ret2
    exact ⟨rfl, (Kept.refl _).alloc _⟩
  · have HK := Lib.hid (show okN n = false by unfold okN; simp; omega)
    have b0 : (n == 9) = false := by simp; omega
    have b1 : (n == 10) = false := by simp; omega
    have b2 : (n == 13) = false := by simp; omega
    have c0 : decide (32 ≤ n) = false := by simp; omega
    have c1 : decide (57344 ≤ n) = false := by simp; omega
    have c2 : decide (65536 ≤ n) = false := by simp; omega
    have c3 : decide (n ≤ 55295) = true := by simp; omega
    have c4 : decide (n ≤ 65533) = true := by simp; omega
    have c5 : decide (n ≤ 1114111) = true := by simp; omega
    have HS := Lib.hid (show rnS n = [] by unfold rnS rn; rw [HK.out]; rfl)
    clear h
    go_enter Tryz.func72, Tryz.ntmps72
    go_wp2
    go_ret2
    exact ⟨by rw [HS.out, HK.out]; rfl, Kept.refl _⟩
  · have HK := Lib.hid (show okN n = true by unfold okN; simp; omega)
    have b0 : (n == 9) = false := by simp; omega
    have b1 : (n == 10) = false := by simp; omega
    have b2 : (n == 13) = false := by simp; omega
    have c0 : decide (32 ≤ n) = true := by simp; omega
    have c1 : decide (57344 ≤ n) = false := by simp; omega
    have c2 : decide (65536 ≤ n) = false := by simp; omega
    have c3 : decide (n ≤ 55295) = true := by simp; omega
    have c4 : decide (n ≤ 65533) = true := by simp; omega
    have c5 : decide (n ≤ 1114111) = true := by simp; omega
    have c6 : n < 128 := by omega
    have c7 : n < 2048 := by omega
    have c8 : n < 65536 := by omega
    have HS := Lib.hid (show rnS n = [by8 n] by unfold rnS rn; rw [HK.out, if_pos rfl]; unfold utf; rw [if_pos (by omega)]; rfl)
    have n0 := by8_nat (n := n) (by omega) (by omega)
    have hcv := fun W => conv_lit W [by8 n]
    simp only [bc, List.map_cons, List.map_nil, List.length_cons, List.length_nil, Nat.zero_add] at hcv
    simp only [n0] at hcv
    have g1 : 32 ≤ n := by omega
    have g2 : n ≤ 127 := by omega
    clear h n0
    go_enter Tryz.func72, Tryz.ntmps72
    go_wp2
    go_ret2
    exact ⟨by rw [HS.out, HK.out]; rfl, (Kept.refl _).alloc _⟩
  · have HK := Lib.hid (show okN n = true by unfold okN; simp; omega)
    have b0 : (n == 9) = false := by simp; omega
    have b1 : (n == 10) = false := by simp; omega
    have b2 : (n == 13) = false := by simp; omega
    have c0 : decide (32 ≤ n) = true := by simp; omega
    have c1 : decide (57344 ≤ n) = false := by simp; omega
    have c2 : decide (65536 ≤ n) = false := by simp; omega
    have c3 : decide (n ≤ 55295) = true := by simp; omega
    have c4 : decide (n ≤ 65533) = true := by simp; omega
    have c5 : decide (n ≤ 1114111) = true := by simp; omega
    have c6 : ¬ n < 128 := by omega
    have c7 : n < 2048 := by omega
    have c8 : n < 65536 := by omega
    have HS := Lib.hid (show rnS n = [by8 (192 + n / 64), by8 (128 + n % 64)] by unfold rnS rn; rw [HK.out, if_pos rfl]; unfold utf; rw [if_neg (by omega), if_pos (by omega)]; rfl)
    have n0 := by8_nat (n := 192 + n / 64) (by omega) (by omega)
    have n1 := by8_nat (n := 128 + n % 64) (by omega) (by omega)
    have hcv := fun W => conv_lit W [by8 (192 + n / 64), by8 (128 + n % 64)]
    simp only [bc, List.map_cons, List.map_nil, List.length_cons, List.length_nil, Nat.zero_add, Nat.reduceAdd] at hcv
    simp only [n0, n1] at hcv
    have q64 : n.tdiv 64 = n / 64 := Int.tdiv_eq_ediv_of_nonneg (by omega)
    have r64 : n.tmod 64 = n % 64 := Int.tmod_eq_emod_of_nonneg (by omega)
    have g1 : 128 ≤ n := by omega
    have g2 : n ≤ 2047 := by omega
    clear h n0 n1
    go_enter Tryz.func72, Tryz.ntmps72
    go_wp2
    go_ret2
    exact ⟨by rw [HS.out, HK.out]; rfl, (Kept.refl _).alloc _⟩
  · have HK := Lib.hid (show okN n = true by unfold okN; simp; omega)
    have b0 : (n == 9) = false := by simp; omega
    have b1 : (n == 10) = false := by simp; omega
    have b2 : (n == 13) = false := by simp; omega
    have c0 : decide (32 ≤ n) = true := by simp; omega
    have c1 : decide (57344 ≤ n) = false := by simp; omega
    have c2 : decide (65536 ≤ n) = false := by simp; omega
    have c3 : decide (n ≤ 55295) = true := by simp; omega
    have c4 : decide (n ≤ 65533) = true := by simp; omega
    have c5 : decide (n ≤ 1114111) = true := by simp; omega
    have c6 : ¬ n < 128 := by omega
    have c7 : ¬ n < 2048 := by omega
    have c8 : n < 65536 := by omega
    have HS := Lib.hid (show rnS n = [by8 (224 + n / 4096), by8 (128 + n / 64 % 64), by8 (128 + n % 64)] by unfold rnS rn; rw [HK.out, if_pos rfl]; unfold utf; rw [if_neg (by omega), if_neg (by omega), if_pos (by omega)]; rfl)
    have n0 := by8_nat (n := 224 + n / 4096) (by omega) (by omega)
    have n1 := by8_nat (n := 128 + n / 64 % 64) (by omega) (by omega)
    have n2 := by8_nat (n := 128 + n % 64) (by omega) (by omega)
    have hcv := fun W => conv_lit W [by8 (224 + n / 4096), by8 (128 + n / 64 % 64), by8 (128 + n % 64)]
    simp only [bc, List.map_cons, List.map_nil, List.length_cons, List.length_nil, Nat.zero_add, Nat.reduceAdd] at hcv
    simp only [n0, n1, n2] at hcv
    have q4096 : n.tdiv 4096 = n / 4096 := Int.tdiv_eq_ediv_of_nonneg (by omega)
    have q64 : n.tdiv 64 = n / 64 := Int.tdiv_eq_ediv_of_nonneg (by omega)
    have r64 : n.tmod 64 = n % 64 := Int.tmod_eq_emod_of_nonneg (by omega)
    have rq64 : (n / 64).tmod 64 = n / 64 % 64 := Int.tmod_eq_emod_of_nonneg (by omega)
    have g1 : 2048 ≤ n := by omega
    have g2 : n ≤ 55295 := by omega
    clear h n0 n1 n2
    go_enter Tryz.func72, Tryz.ntmps72
    go_wp2
    go_ret2
    exact ⟨by rw [HS.out, HK.out]; rfl, (Kept.refl _).alloc _⟩
  · have HK := Lib.hid (show okN n = false by unfold okN; simp; omega)
    have b0 : (n == 9) = false := by simp; omega
    have b1 : (n == 10) = false := by simp; omega
    have b2 : (n == 13) = false := by simp; omega
    have c0 : decide (32 ≤ n) = true := by simp; omega
    have c1 : decide (57344 ≤ n) = false := by simp; omega
    have c2 : decide (65536 ≤ n) = false := by simp; omega
    have c3 : decide (n ≤ 55295) = false := by simp; omega
    have c4 : decide (n ≤ 65533) = true := by simp; omega
    have c5 : decide (n ≤ 1114111) = true := by simp; omega
    have HS := Lib.hid (show rnS n = [] by unfold rnS rn; rw [HK.out]; rfl)
    clear h
    go_enter Tryz.func72, Tryz.ntmps72
    go_wp2
    go_ret2
    exact ⟨by rw [HS.out, HK.out]; rfl, Kept.refl _⟩
  · have HK := Lib.hid (show okN n = true by unfold okN; simp; omega)
    have b0 : (n == 9) = false := by simp; omega
    have b1 : (n == 10) = false := by simp; omega
    have b2 : (n == 13) = false := by simp; omega
    have c0 : decide (32 ≤ n) = true := by simp; omega
    have c1 : decide (57344 ≤ n) = true := by simp; omega
    have c2 : decide (65536 ≤ n) = false := by simp; omega
    have c3 : decide (n ≤ 55295) = false := by simp; omega
    have c4 : decide (n ≤ 65533) = true := by simp; omega
    have c5 : decide (n ≤ 1114111) = true := by simp; omega
    have c6 : ¬ n < 128 := by omega
    have c7 : ¬ n < 2048 := by omega
    have c8 : n < 65536 := by omega
    have HS := Lib.hid (show rnS n = [by8 (224 + n / 4096), by8 (128 + n / 64 % 64), by8 (128 + n % 64)] by unfold rnS rn; rw [HK.out, if_pos rfl]; unfold utf; rw [if_neg (by omega), if_neg (by omega), if_pos (by omega)]; rfl)
    have n0 := by8_nat (n := 224 + n / 4096) (by omega) (by omega)
    have n1 := by8_nat (n := 128 + n / 64 % 64) (by omega) (by omega)
    have n2 := by8_nat (n := 128 + n % 64) (by omega) (by omega)
    have hcv := fun W => conv_lit W [by8 (224 + n / 4096), by8 (128 + n / 64 % 64), by8 (128 + n % 64)]
    simp only [bc, List.map_cons, List.map_nil, List.length_cons, List.length_nil, Nat.zero_add, Nat.reduceAdd] at hcv
    simp only [n0, n1, n2] at hcv
    have q4096 : n.tdiv 4096 = n / 4096 := Int.tdiv_eq_ediv_of_nonneg (by omega)
    have q64 : n.tdiv 64 = n / 64 := Int.tdiv_eq_ediv_of_nonneg (by omega)
    have r64 : n.tmod 64 = n % 64 := Int.tmod_eq_emod_of_nonneg (by omega)
    have rq64 : (n / 64).tmod 64 = n / 64 % 64 := Int.tmod_eq_emod_of_nonneg (by omega)
    have g1 : 57344 ≤ n := by omega
    have g2 : n ≤ 65533 := by omega
    clear h n0 n1 n2
    go_enter Tryz.func72, Tryz.ntmps72
    go_wp2
    go_ret2
    exact ⟨by rw [HS.out, HK.out]; rfl, (Kept.refl _).alloc _⟩
  · have HK := Lib.hid (show okN n = false by unfold okN; simp; omega)
    have b0 : (n == 9) = false := by simp; omega
    have b1 : (n == 10) = false := by simp; omega
    have b2 : (n == 13) = false := by simp; omega
    have c0 : decide (32 ≤ n) = true := by simp; omega
    have c1 : decide (57344 ≤ n) = true := by simp; omega
    have c2 : decide (65536 ≤ n) = false := by simp; omega
    have c3 : decide (n ≤ 55295) = false := by simp; omega
    have c4 : decide (n ≤ 65533) = false := by simp; omega
    have c5 : decide (n ≤ 1114111) = true := by simp; omega
    have HS := Lib.hid (show rnS n = [] by unfold rnS rn; rw [HK.out]; rfl)
    clear h
    go_enter Tryz.func72, Tryz.ntmps72
    go_wp2
    go_ret2
    exact ⟨by rw [HS.out, HK.out]; rfl, Kept.refl _⟩
  · have HK := Lib.hid (show okN n = true by unfold okN; simp; omega)
    have b0 : (n == 9) = false := by simp; omega
    have b1 : (n == 10) = false := by simp; omega
    have b2 : (n == 13) = false := by simp; omega
    have c0 : decide (32 ≤ n) = true := by simp; omega
    have c1 : decide (57344 ≤ n) = true := by simp; omega
    have c2 : decide (65536 ≤ n) = true := by simp; omega
    have c3 : decide (n ≤ 55295) = false := by simp; omega
    have c4 : decide (n ≤ 65533) = false := by simp; omega
    have c5 : decide (n ≤ 1114111) = true := by simp; omega
    have c6 : ¬ n < 128 := by omega
    have c7 : ¬ n < 2048 := by omega
    have c8 : ¬ n < 65536 := by omega
    have HS := Lib.hid (show rnS n = [by8 (240 + n / 262144), by8 (128 + n / 4096 % 64), by8 (128 + n / 64 % 64), by8 (128 + n % 64)] by unfold rnS rn; rw [HK.out, if_pos rfl]; unfold utf; rw [if_neg (by omega), if_neg (by omega), if_neg (by omega)]; rfl)
    have n0 := by8_nat (n := 240 + n / 262144) (by omega) (by omega)
    have n1 := by8_nat (n := 128 + n / 4096 % 64) (by omega) (by omega)
    have n2 := by8_nat (n := 128 + n / 64 % 64) (by omega) (by omega)
    have n3 := by8_nat (n := 128 + n % 64) (by omega) (by omega)
    have hcv := fun W => conv_lit W [by8 (240 + n / 262144), by8 (128 + n / 4096 % 64), by8 (128 + n / 64 % 64), by8 (128 + n % 64)]
    simp only [bc, List.map_cons, List.map_nil, List.length_cons, List.length_nil, Nat.zero_add, Nat.reduceAdd] at hcv
    simp only [n0, n1, n2, n3] at hcv
    have q262144 : n.tdiv 262144 = n / 262144 := Int.tdiv_eq_ediv_of_nonneg (by omega)
    have q4096 : n.tdiv 4096 = n / 4096 := Int.tdiv_eq_ediv_of_nonneg (by omega)
    have q64 : n.tdiv 64 = n / 64 := Int.tdiv_eq_ediv_of_nonneg (by omega)
    have r64 : n.tmod 64 = n % 64 := Int.tmod_eq_emod_of_nonneg (by omega)
    have rq64 : (n / 64).tmod 64 = n / 64 % 64 := Int.tmod_eq_emod_of_nonneg (by omega)
    have rq4096 : (n / 4096).tmod 64 = n / 4096 % 64 := Int.tmod_eq_emod_of_nonneg (by omega)
    have g1 : 65536 ≤ n := by omega
    have g2 : n ≤ 1114111 := by omega
    clear h n0 n1 n2 n3
    go_enter Tryz.func72, Tryz.ntmps72
    go_wp2
    go_ret2
    exact ⟨by rw [HS.out, HK.out]; rfl, (Kept.refl _).alloc _⟩
  · have HK := Lib.hid (show okN n = false by unfold okN; simp; omega)
    have b0 : (n == 9) = false := by simp; omega
    have b1 : (n == 10) = false := by simp; omega
    have b2 : (n == 13) = false := by simp; omega
    have c0 : decide (32 ≤ n) = true := by simp; omega
    have c1 : decide (57344 ≤ n) = true := by simp; omega
    have c2 : decide (65536 ≤ n) = true := by simp; omega
    have c3 : decide (n ≤ 55295) = false := by simp; omega
    have c4 : decide (n ≤ 65533) = false := by simp; omega
    have c5 : decide (n ≤ 1114111) = false := by simp; omega
    have HS := Lib.hid (show rnS n = [] by unfold rnS rn; rw [HK.out]; rfl)
    clear h
    go_enter Tryz.func72, Tryz.ntmps72
    go_wp2
    go_ret2
    exact ⟨by rw [HS.out, HK.out]; rfl, Kept.refl _⟩
end Go.Proofs.YtpkbcomdkamglaaGreatDoor
