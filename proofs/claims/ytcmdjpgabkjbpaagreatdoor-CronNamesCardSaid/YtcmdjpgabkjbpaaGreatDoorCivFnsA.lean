/- What package civil's functions, and the document's own answers for it, come to, call by call (contracts): leap years and months' lengths. -/
import Derived.Test.YtcmdjpgabkjbpaaGreatDoorChecked
import Derived.Test.YtcmdjpgabkjbpaaGreatDoorKept
import Derived.Test.YtcmdjpgabkjbpaaGreatDoorCivPure
import Derived.WalkKit
import Derived.ProofKit
import Derived.Lib.Hide
namespace Go.Proofs.YtcmdjpgabkjbpaaGreatDoor
open Go.ChangeShapes Go.WideShapes Go.ChangeAt Go.RowKit
open Civ

theorem ret_int {k : IntKind} {a b : Int} (h : a = b) : Ending.returned (.int k a) = .returned (.int k b) := by rw [h]
theorem ret_bool {a b : Bool} (h : a = b) : Ending.returned (.bool a) = .returned (.bool b) := by rw [h]

set_option maxHeartbeats 400000 in
theorem leap_any (y : Int) (w : World) :
    Calls Tryz.prog 75 #[.int .i64 y] w fun e w' => e = .returned (.bool (leap y)) ∧ w = w' := by
  go_enter Tryz.func75, Tryz.ntmps75
  go_wp2
  all_goals (go_ret; exact ⟨ret_bool (by simp [leap, *]), rfl⟩)
theorem leap_yes (y : Int) (w : World) (h : leap y = true) :
    Calls Tryz.prog 75 #[.int .i64 y] w fun e w' => e = .returned (.bool true) ∧ w = w' := by
  have := leap_any y w; rwa [h] at this
theorem leap_no (y : Int) (w : World) (h : leap y = false) :
    Calls Tryz.prog 75 #[.int .i64 y] w fun e w' => e = .returned (.bool false) ∧ w = w' := by
  have := leap_any y w; rwa [h] at this

/-- The array of the months' lengths. -/
def lens (y : Int) : Array Value := #[.int .i64 0, .int .i64 31, .int .i64 (28 + lp y), .int .i64 31, .int .i64 30, .int .i64 31, .int .i64 30, .int .i64 31, .int .i64 31, .int .i64 30, .int .i64 31, .int .i64 30, .int .i64 31]
set_option maxHeartbeats 1000000 in
theorem lengths_yes (y : Int) (w : World) (h : leap y = true) :
    Calls Tryz.prog 62 #[.int .i64 y] w fun e w' => e = .returned (.agg (lens y)) ∧ Kept w w' := by
  have hl : lens y = #[.int .i64 0, .int .i64 31, .int .i64 29, .int .i64 31, .int .i64 30, .int .i64 31, .int .i64 30, .int .i64 31, .int .i64 31, .int .i64 30, .int .i64 31, .int .i64 30, .int .i64 31] := by
    unfold lens; rw [lp_true h]; rfl
  rw [hl]; clear hl
  have H := Lib.hid h; clear h
  go_enter Tryz.func62, Tryz.ntmps62
  go_wp2_with (first | (go_at_call 75; refine (leap_yes _ _ H.out).mono ?_; rintro e w' ⟨rfl, rfl⟩) | go_in)
  go_end0
  go_wp2
  exact bodyPost_ret (v := .agg #[.int .i64 0, .int .i64 31, .int .i64 29, .int .i64 31, .int .i64 30, .int .i64 31, .int .i64 30, .int .i64 31, .int .i64 31, .int .i64 30, .int .i64 31, .int .i64 30, .int .i64 31]) (by simp [results, Tryz.results62, go_sem]) rfl
    ⟨rfl, (((Kept.refl _).alloc _).alloc _).alloc _⟩
set_option maxHeartbeats 1000000 in
theorem lengths_no (y : Int) (w : World) (h : leap y = false) :
    Calls Tryz.prog 62 #[.int .i64 y] w fun e w' => e = .returned (.agg (lens y)) ∧ Kept w w' := by
  have hl : lens y = #[.int .i64 0, .int .i64 31, .int .i64 28, .int .i64 31, .int .i64 30, .int .i64 31, .int .i64 30, .int .i64 31, .int .i64 31, .int .i64 30, .int .i64 31, .int .i64 30, .int .i64 31] := by
    unfold lens; rw [lp_false h]; rfl
  rw [hl]; clear hl
  have H := Lib.hid h; clear h
  go_enter Tryz.func62, Tryz.ntmps62
  go_wp2_with (first | (go_at_call 75; refine (leap_no _ _ H.out).mono ?_; rintro e w' ⟨rfl, rfl⟩) | go_in)
  go_end0
  go_wp2
  exact bodyPost_ret (v := .agg #[.int .i64 0, .int .i64 31, .int .i64 28, .int .i64 31, .int .i64 30, .int .i64 31, .int .i64 30, .int .i64 31, .int .i64 31, .int .i64 30, .int .i64 31, .int .i64 30, .int .i64 31]) (by simp [results, Tryz.results62, go_sem]) rfl
    ⟨rfl, (((Kept.refl _).alloc _).alloc _).alloc _⟩
theorem lengths_any (y : Int) (w : World) :
    Calls Tryz.prog 62 #[.int .i64 y] w fun e w' => e = .returned (.agg (lens y)) ∧ Kept w w' := by
  cases h : leap y
  · exact lengths_no y w h
  · exact lengths_yes y w h
theorem lengths_lit (y : Int) (w : World) :
    Calls Tryz.prog 62 #[.int .i64 y] w fun e w' => e = .returned (.agg #[.int .i64 0, .int .i64 31, .int .i64 (28 + lp y), .int .i64 31, .int .i64 30, .int .i64 31, .int .i64 30, .int .i64 31, .int .i64 31, .int .i64 30, .int .i64 31, .int .i64 30, .int .i64 31]) ∧ Kept w w' := lengths_any y w

/-- An array by value, whose elements are integers, indexed within its length. -/
theorem run_index_arr {P : Program} (w : World) (t e : TypeId) (n : Nat) (cs : Array Value) (k : IntKind) (i : Int) {kk : IntKind} (v : Value)
    (h : P.underlying t = some (.array n e)) (he : P.underlying e = some (.int kk)) (hi : (P.info? e).isSome = true) (hc : P.cellsOf e = 1)
    (h0 : 0 ≤ i) (h1 : i < n) (hv : cs[i.toNat]? = some v) : (Instr.index t (.agg cs) (.int k i)).run P w = .ok v w := by
  obtain ⟨inf, hinf⟩ := Option.isSome_iff_exists.mp hi
  simp [Instr.index, run_underlying h, asIntOf, h0, h1, run_sizeOf _ hinf, hc, part, isAgg, run_underlying he, hv, go_sem]
theorem lens_at (y m : Int) (h1 : 1 ≤ m) (h2 : m ≤ 12) : (lens y)[m.toNat]? = some (.int .i64 (dim y m)) := by
  rcases month_cases m h1 h2 with rfl | rfl | rfl | rfl | rfl | rfl | rfl | rfl | rfl | rfl | rfl | rfl <;> simp [lens, dim]
theorem cells_int : Tryz.prog.cellsOf 3 = 1 := by kernel_rfl

set_option maxHeartbeats 1000000 in
theorem days_any (y m : Int) (w : World) :
    Calls Tryz.prog 61 #[.int .i64 y, .int .i64 m] w fun e w' => e = .returned (.int .i64 (dim y m)) ∧ Kept w w' := by
  by_cases h : 1 ≤ m ∧ m ≤ 12
  · obtain ⟨h1, h2⟩ := h
    have hx := fun W => run_index_arr (P := Tryz.prog) W 82 3 13 (lens y) .i64 m _ Tryz.underlying82 Tryz.underlying3 (by kernel_rfl) cells_int (by omega) (by omega) (lens_at y m h1 h2)
    go_enter Tryz.func61, Tryz.ntmps61
    go_wp2_with (go_at_call 62; refine (lengths_any _ _).mono ?_; rintro e w' ⟨rfl, hg⟩)
    go_ret
    exact ⟨rfl, hg⟩
  · have hd := Lib.hid (dim_out y m (by omega))
    rcases (show m < 1 ∨ (¬ m < 1 ∧ 12 < m) by omega) with h1 | ⟨h1, h2⟩
    all_goals
      clear h
      go_enter Tryz.func61, Tryz.ntmps61
      go_wp2_with fail
      go_ret
      exact ⟨ret_int hd.out.symm, Kept.refl _⟩

set_option maxHeartbeats 1000000 in
theorem isDay_any (y m d : Int) (w : World) :
    Calls Tryz.prog 44 #[.int .i64 y, .int .i64 m, .int .i64 d] w fun e w' => e = .returned (.bool (okB y m d)) ∧ Kept w w' := by
  by_cases h1 : 1 ≤ y
  · by_cases h2 : y ≤ 9999
    · by_cases h3 : 1 ≤ d
      · have hk := Lib.hid (show okB y m d = decide (d ≤ dim y m) from by simp [okB, h1, h2, h3])
        go_enter Tryz.func44, Tryz.ntmps44
        go_wp2_with (go_at_call 61; refine (days_any _ _ _).mono ?_; rintro e w' ⟨rfl, hg⟩)
        go_ret
        exact ⟨ret_bool hk.out.symm, hg⟩
      · have hk := Lib.hid (show okB y m d = false from by simp [okB, h3])
        go_enter Tryz.func44, Tryz.ntmps44
        go_wp2_with fail
        go_ret
        exact ⟨ret_bool hk.out.symm, Kept.refl _⟩
    · have hk := Lib.hid (show okB y m d = false from by simp [okB, h2])
      go_enter Tryz.func44, Tryz.ntmps44
      go_wp2_with fail
      go_ret
      exact ⟨ret_bool hk.out.symm, Kept.refl _⟩
  · have hk := Lib.hid (show okB y m d = false from by simp [okB, h1])
    go_enter Tryz.func44, Tryz.ntmps44
    go_wp2_with fail
    go_ret
    exact ⟨ret_bool hk.out.symm, Kept.refl _⟩

set_option maxHeartbeats 400000 in
theorem daysAhead_any (y : Int) (w : World) (h1 : 1 ≤ y) (h2 : y ≤ 10001) :
    Calls Tryz.prog 45 #[.int .i64 y] w fun e w' => e = .returned (.int .i64 (dby y)) ∧ w = w' := by
  go_enter Tryz.func45, Tryz.ntmps45
  go_wp2
  go_ret
  exact ⟨ret_int (by unfold dby; omega), rfl⟩
end Go.Proofs.YtcmdjpgabkjbpaaGreatDoor
