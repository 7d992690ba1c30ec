/- Contracts of the document's answers for layer 2: texts. -/
import Derived.Test.YtlmjopembcifiaaDoorStRef
namespace Go.Proofs.YtlmjopembcifiaaDoor
open Go.ChangeShapes Go.WideShapes Go.ChangeAt Go.RowKit
open Civ
theorem ext10 (m : Nat) (h : m < 10) : (ByteArray.mk #[48, 49, 50, 51, 52, 53, 54, 55, 56, 57]).extract m (m + 1) = ⟨#[UInt8.ofNat (48 + m)]⟩ := by
  have : m = 0 ∨ m = 1 ∨ m = 2 ∨ m = 3 ∨ m = 4 ∨ m = 5 ∨ m = 6 ∨ m = 7 ∨ m = 8 ∨ m = 9 := by omega
  rcases this with rfl | rfl | rfl | rfl | rfl | rfl | rfl | rfl | rfl | rfl <;> rfl
set_option maxHeartbeats 1000000 in
theorem rdigits_any (n k : Nat) (w : World) (hk : k ≤ 4) (hn : n ≤ 9223372036854775807) :
    Calls Tryd.prog 24 #[.int .i64 n, .int .i64 k] w fun e w' => e = .returned (.string ⟨(dig k n).toArray⟩) ∧ w = w' := by
  have dl : ∀ k n, (dig k n).length = k := dig_length
  go_enter Tryd.func24, Tryd.ntmps24
  go_wp2_with fail
  go_loop [0, 5, 6] (fun a o i => ∃ j : Nat, j ≤ k ∧ i = .int .i64 j ∧ a = .int .i64 ((n / 10 ^ j : Nat) : Int) ∧ o = .string ⟨(dig j n).toArray⟩) (fun _ _ i => k - (intOf i).toNat)
  case atStart => exact ⟨0, Nat.zero_le _, rfl, by simp, rfl⟩
  case round =>
    obtain ⟨j, hj, rfl, rfl, rfl⟩ := hrel
    by_cases hlt : j < k
    · have hN : n / 10 ^ j ≤ 9223372036854775807 := Nat.le_trans (Nat.div_le_self _ _) hn
      have hf := dig_front j n
      have he : n / 10 ^ (j + 1) = n / 10 ^ j / 10 := by rw [Nat.div_div_eq_div_mul, Nat.pow_succ]
      generalize n / 10 ^ j = N at *
      have HF := Lib.hid hf; clear hf
      have HE := Lib.hid he; clear he
      have hx := ext10 (N % 10) (by omega)
      have i1 : (0 : Int) ≤ (N : Int) % 10 := by omega
      have i2 : (N : Int) % 10 + 1 ≤ 10 := by omega
      have i3 : (N : Int) % 10 ≤ (N : Int) % 10 + 1 := by omega
      have i4 : ((N : Int) % 10).toNat = N % 10 := by omega
      have i5 : ((N : Int) % 10 + 1).toNat = N % 10 + 1 := by omega
      go_wp2
      go_round
      case rel =>
        refine ⟨j + 1, by omega, by go_num, ?_, ?_⟩
        · rw [HE.out]; go_num
        · rw [HF.out, show (48 : UInt8) + UInt8.ofNat (N % 10) = UInt8.ofNat (48 + N % 10) by simp]
          rw [show (UInt8.ofNat (48 + N % 10) :: dig j n) = [UInt8.ofNat (48 + N % 10)] ++ dig j n from rfl, ← ByteArray.mk_append_mk]
      case measure => simp [intOf]; omega
    · have hjk : j = k := by omega
      subst hjk
      go_wp2
      go_ret
      exact ⟨rfl, rfl⟩
theorem rdigits_2 (n : Int) (w : World) (h0 : 0 ≤ n) (h1 : n < 100) :
    Calls Tryd.prog 24 #[.int .i64 n, .int .i64 2] w fun e w' => e = .returned (.string ⟨(dig 2 n.toNat).toArray⟩) ∧ w = w' := by
  obtain ⟨k, rfl⟩ := Int.eq_ofNat_of_zero_le h0
  exact rdigits_any k 2 w (by omega) (by omega)
theorem rdigits_4 (n : Int) (w : World) (h0 : 0 ≤ n) (h1 : n < 10000) :
    Calls Tryd.prog 24 #[.int .i64 n, .int .i64 4] w fun e w' => e = .returned (.string ⟨(dig 4 n.toNat).toArray⟩) ∧ w = w' := by
  obtain ⟨k, rfl⟩ := Int.eq_ofNat_of_zero_le h0
  exact rdigits_any k 4 w (by omega) (by omega)
theorem rname_any (l : List UInt8) (i : Nat) (w : World) (hl : l.length ≤ 100) (hi : 3 * i + 3 ≤ l.length) :
    Calls Tryd.prog 38 #[.string ⟨l.toArray⟩, .int .i64 i] w fun e w' => e = .returned (.string ⟨(nm l i).toArray⟩) ∧ w = w' := by
  have h1 : (0 : Int) ≤ 3 * (i : Int) := by omega
  have h2 : 3 * (i : Int) + 3 ≤ (l.length : Int) := by omega
  have h3 : 3 * (i : Int) ≤ 3 * (i : Int) + 3 := by omega
  have h4 : (l.length : Int) ≤ 100 := by omega
  go_enter Tryd.func38, Tryd.ntmps38
  go_wp2
  go_ret
  rw [extract_mk, Nat.add_sub_cancel_left]
  exact ⟨rfl, rfl⟩
theorem rname_day (i : Int) (w : World) (h0 : 0 ≤ i) (h1 : i < 7) :
    Calls Tryd.prog 38 #[.string ⟨#[83, 117, 110, 77, 111, 110, 84, 117, 101, 87, 101, 100, 84, 104, 117, 70, 114, 105, 83, 97, 116]⟩, .int .i64 i] w fun e w' => e = .returned (.string ⟨(nm dayNames i.toNat).toArray⟩) ∧ w = w' := by
  obtain ⟨k, rfl⟩ := Int.eq_ofNat_of_zero_le h0
  exact rname_any dayNames k w (by decide) (by show 3 * k + 3 ≤ 21; omega)
theorem rname_mon (i : Int) (w : World) (h0 : 0 ≤ i) (h1 : i < 12) :
    Calls Tryd.prog 38 #[.string ⟨#[74, 97, 110, 70, 101, 98, 77, 97, 114, 65, 112, 114, 77, 97, 121, 74, 117, 110, 74, 117, 108, 65, 117, 103, 83, 101, 112, 79, 99, 116, 78, 111, 118, 68, 101, 99]⟩, .int .i64 i] w fun e w' => e = .returned (.string ⟨(nm monNames i.toNat).toArray⟩) ∧ w = w' := by
  obtain ⟨k, rfl⟩ := Int.eq_ofNat_of_zero_le h0
  exact rname_any monNames k w (by decide) (by show 3 * k + 3 ≤ 36; omega)
theorem rwday_cal (n : Int) (w : World) (h1 : -719162 ≤ n) (h2 : n ≤ 2932896) :
    Calls Tryd.prog 39 #[.int .i64 n] w fun e w' => e = .returned (.int .i64 ((n + 4) % 7)) ∧ w = w' := by
  have := rwday_any n w; rwa [wd_cal n h1 h2] at this
set_option maxRecDepth 100000 in
set_option maxHeartbeats 2000000 in
theorem rtext_yes (t : Int) (w : World) (h : inCal t) : Calls Tryd.prog 19 #[.int .i64 t] w (TextPost t w) := by
  have dl : ∀ k n, (dig k n).length = k := dig_length
  have HC := Lib.hid h; clear h
  go_enter Tryd.func19, Tryd.ntmps19
  go_wp2_with fail
  refine (rat_yes t _ HC.out).mono ?_
  rintro e w1 ⟨hday, rfl, k1⟩
  obtain ⟨b1, b2, b3, b4, b5, b6⟩ := day_bd hday
  have HD := Lib.hid hday; clear hday
  have q1 : 0 ≤ t % 86400 / 3600 ∧ t % 86400 / 3600 < 24 := by omega
  have q2 : 0 ≤ t % 3600 / 60 ∧ t % 3600 / 60 < 60 := by omega
  have q3 : 0 ≤ t % 60 ∧ t % 60 < 60 := by omega
  have g0 := (Kept.refl (w1.alloc (.cells #[.int .i64 (yr (t / 86400)), .int .i64 (mo (t / 86400)), .int .i64 (dy (t / 86400)), .int .i64 (t % 86400 / 3600), .int .i64 (t % 3600 / 60), .int .i64 (t % 60)] 23)))
  have c0 := g0.new 0 rfl
  have c1 := g0.new 1 rfl
  have c2 := g0.new 2 rfl
  have c3 := g0.new 3 rfl
  have c4 := g0.new 4 rfl
  have c5 := g0.new 5 rfl
  have kw := k1.trans g0.back; clear k1 g0
  go_wp2_with fail
  generalize w1.alloc (.cells #[.int .i64 (yr (t / 86400)), .int .i64 (mo (t / 86400)), .int .i64 (dy (t / 86400)), .int .i64 (t % 86400 / 3600), .int .i64 (t % 3600 / 60), .int .i64 (t % 60)] 23) = W at *
  go_region_held3 (fun x => Kept W x ∧ x.cell? ⟨w1.heap.size, 0, none⟩ = some (.int .i64 (yr (t / 86400))) ∧ x.cell? ⟨w1.heap.size, 1, none⟩ = some (.int .i64 (mo (t / 86400))) ∧ x.cell? ⟨w1.heap.size, 2, none⟩ = some (.int .i64 (dy (t / 86400))) ∧ x.cell? ⟨w1.heap.size, 3, none⟩ = some (.int .i64 (t % 86400 / 3600)) ∧ x.cell? ⟨w1.heap.size, 4, none⟩ = some (.int .i64 (t % 3600 / 60)) ∧ x.cell? ⟨w1.heap.size, 5, none⟩ = some (.int .i64 (t % 60)))
    (first | assumption | exact ⟨(Kept.refl W).drew, c0, c1, c2, c3, c4, c5⟩)
    (first | (go_at_call_of 24 (Value.int IntKind.i64 4); refine (rdigits_4 _ _ (by omega) (by omega)).mono ?_; rintro e w' ⟨rfl, rfl⟩)
           | (go_at_call 24; refine (rdigits_2 _ _ (by omega) (by omega)).mono ?_; rintro e w' ⟨rfl, rfl⟩))
  have hK := (‹Kept W _ ∧ _›).1
  go_wp2
  go_ret2
  exact ⟨HD.out, by simp [txt, clk, ByteArray.mk_append_mk], kw.trans hK⟩
theorem rtext_not (t : Int) (w : World) (h1 : -9223372036854775808 ≤ t) (h2 : t ≤ 9223372036854775807) (h : ¬ inCal t) :
    Calls Tryd.prog 19 #[.int .i64 t] w fun e w' => e = .returned (.tuple #[.string ⟨#[]⟩, .int .i64 1]) ∧ Kept w w' := by
  have HC := Lib.hid h; clear h
  go_enter Tryd.func19, Tryd.ntmps19
  go_wp2_with fail
  refine (rat_not t _ h1 h2 HC.out).mono ?_
  rintro e w1 ⟨rfl, k1⟩
  go_wp2
  go_ret2
  exact ⟨rfl, k1.alloc _⟩
end Go.Proofs.YtlmjopembcifiaaDoor
