/- strconv.ParseUint at the bases 10 and 16, of few digits: just as 'num' tells it; a sign of a number written so. -/
import Derived.Test.YtpkbcomdkamglaaDoorEnA
import Derived.Test.YtpkbcomdkamglaaDoorShelf
import Derived.Lib.Strings
import Derived.Lib.Walk
import Derived.Lib.ConvBytes
import Derived.Lib.AtoiErrMem
import Derived.Lib.Hide
import Derived.Laws.Strings3
import Derived.Laws.Closers25
import Derived.Laws.Closers25b
import Derived.WalkKit
import Derived.BigCall
import Derived.BigGuard
set_option linter.unusedSimpArgs false
set_option linter.unusedVariables false
namespace Go.Proofs.YtpkbcomdkamglaaDoor
open Go.ChangeShapes Go.WideShapes Go.ChangeAt Go.RowKit
open En
def puT (n : Option Int) : Value := match n with
  | some a => .tuple #[.int .u64 a, .nilIface]
  | none => .tuple #[.int .u64 0, .iface 104 (.int .i64 2)]
def loB (c : UInt8) : Int := bits .or .u8 (c.toNat : Int) 32
theorem lo_dg (c : UInt8) (h : ¬ (48 ≤ c.toNat ∧ c.toNat ≤ 57)) : 0 ≤ loB c ∧ loB c < 256 ∧ (97 ≤ loB c → loB c ≤ 102 → dg c = loB c - 87) ∧ (¬ (97 ≤ loB c ∧ loB c ≤ 102) → dg c = 99) ∧ (c.toNat = 95 → loB c = 127) := by
  have key : ∀ n : Fin 256, ¬ (48 ≤ (UInt8.ofNat n).toNat ∧ (UInt8.ofNat n).toNat ≤ 57) → 0 ≤ loB (UInt8.ofNat n) ∧ loB (UInt8.ofNat n) < 256 ∧ (97 ≤ loB (UInt8.ofNat n) → loB (UInt8.ofNat n) ≤ 102 → dg (UInt8.ofNat n) = loB (UInt8.ofNat n) - 87) ∧ (¬ (97 ≤ loB (UInt8.ofNat n) ∧ loB (UInt8.ofNat n) ≤ 102) → dg (UInt8.ofNat n) = 99) ∧ ((UInt8.ofNat n).toNat = 95 → loB (UInt8.ofNat n) = 127) := by decide +kernel
  have := key ⟨c.toNat, c.toNat_lt⟩
  simp only [UInt8.ofNat_toNat] at this
  exact this h
theorem lower_any (c : UInt8) (x : Int) (hx : loB c = x) (W : World) : Calls Tryd.prog 80 #[.int .u8 c.toNat] W fun e w' => e = .returned (.int .u8 x) ∧ W = w' := by
  refine (Tryd.internal_strconv_lower (c.toNat : Int) W).mono ?_
  rintro e w' ⟨rfl, rfl⟩
  exact ⟨by rw [← hx]; rfl, rfl⟩
theorem pow_step (base : Int) (hb : 2 ≤ base) (n k : Nat) (h : k + 1 ≤ n) (B : Int) (hB : base ^ n ≤ B) (a d : Int) (ha : a < base ^ k) (hd : d < base) : a * base + d < base ^ (k + 1) ∧ base ^ (k + 1) ≤ B := by
  have h1 : base ^ (k + 1) ≤ base ^ n := by
    obtain ⟨m, rfl⟩ : ∃ m, n = k + 1 + m := ⟨n - (k + 1), by omega⟩
    rw [show base ^ (k + 1 + m) = base ^ (k + 1) * base ^ m from Int.pow_add ..]
    have p1 : 0 < base ^ (k + 1) := Int.pow_pos (by omega)
    have p2 : 0 < base ^ m := Int.pow_pos (by omega)
    have := Int.mul_le_mul_of_nonneg_left (show 1 ≤ base ^ m by omega) (Int.le_of_lt p1)
    rw [Int.mul_one] at this; exact this
  have h2 : base ^ (k + 1) = base ^ k * base := Int.pow_succ _ _
  have h3 : (a + 1) * base ≤ base ^ k * base := Int.mul_le_mul_of_nonneg_right (by omega) (by omega)
  rw [Int.add_mul, Int.one_mul] at h3
  exact ⟨by omega, by omega⟩
set_option maxHeartbeats 8000000 in
set_option maxRecDepth 100000 in
theorem pu10_any (l : List UInt8) (w : World) (hl : l.length ≤ 9) : Calls Tryd.prog 75 #[.string ⟨l.toArray⟩, .int .i64 10, .int .i64 32] w fun e w' => e = .returned (puT (num 10 l)) ∧ Kept w w' := by
  have HL := Lib.hid hl
  by_cases hne : l = []
  · subst hne
    go_enter Tryd.func75, Tryd.ntmps75
    go_wp2
    go_ret2
    exact ⟨rfl, Kept.refl _⟩
  have hemp : l.isEmpty = false := by simpa using hne
  have HN0 := Lib.hid (show num 10 l = numF 10 0 l by unfold num; rw [if_neg hne])
  have hsz : (ByteArray.mk l.toArray).size = l.length := List.size_toArray
  have hcv := Lib.run_convert_string_bytes (P := Tryd.prog) w 9 30 5 ⟨l.toArray⟩ Tryd.underlying9 Tryd.underlying30 Tryd.underlying5
  have hB : ∀ j, j < l.length → (Lib.bytesWorld w 5 ⟨l.toArray⟩).cell? ⟨w.heap.size, j, none⟩ = some (.int .u8 (l.getD j 0).toNat) := fun j hj => by
    have := Lib.bytesWorld_cell w 5 ⟨l.toArray⟩ j (by rw [hsz]; exact hj)
    simpa using this
  have HK := Lib.hid (Kept.of_below (Lib.bytesWorld_below w 5 ⟨l.toArray⟩))
  have hpw := Lib.hid (show (10 : Int) ^ l.length ≤ 4294967296 by
    have h8 : ∀ n : Nat, n ≤ 9 → (10 : Int) ^ n ≤ 4294967296 := by
      intro n hn
      have : ∀ m : Fin 10, (10 : Int) ^ m.val ≤ 4294967296 := by decide +kernel
      exact this ⟨n, by omega⟩
    exact h8 _ hl)
  generalize Lib.bytesWorld w 5 ⟨l.toArray⟩ = W1 at *
  clear hne hl
  go_enter Tryd.func75, Tryd.ntmps75
  go_wp2
  go_loop [12, 13, 101] (fun vu vn vi => ∃ (k : Nat) (a : Int), vu = .bool false ∧ vn = .int .u64 a ∧ vi = .int .i64 k ∧ k ≤ l.length ∧ Hid (0 ≤ a ∧ a < (10 : Int) ^ k ∧ numF 10 0 l = numF 10 a (l.drop k)))
    (fun _ _ vi => l.length - (intOf vi).toNat)
  case atStart => exact ⟨0, 0, rfl, rfl, rfl, by omega, Lib.hid ⟨by omega, by decide, rfl⟩⟩
  case round =>
    obtain ⟨k, a, rfl, rfl, rfl, hk, hh⟩ := hrel
    obtain ⟨a0, ha, hdec⟩ := hh.out
    have hkl := HL.out
    clear hh
    by_cases hkn : k < l.length
    · have hc := hB k hkn
      rw [drop_at hkn] at hdec
      have hstep := fun d hd => pow_step 10 (by omega) l.length k hkn 4294967296 hpw.out a d ha hd
      generalize l.getD k 0 = c at hc hdec
      have hc256 : c.toNat < 256 := c.toNat_lt
      have acut : a < 4294967296 := by have := hstep 0 (by omega); omega
      clear hB ha
      rw [numF] at hdec
      by_cases hdig : 48 ≤ c.toNat ∧ c.toNat ≤ 57
      · have hd : dg c = (c.toNat : Int) - 48 := by unfold dg; rw [if_pos hdig]
        rw [if_pos (by omega), hd] at hdec
        have hs := hstep ((c.toNat : Int) - 48) (by omega)
        obtain ⟨hd0, hd1⟩ := hdig
        have hov : a * 10 + ((c.toNat : Int) - 48) ≤ 4294967295 := by omega
        have HN : Hid (0 ≤ a * 10 + ((c.toNat : Int) - 48) ∧ a * 10 + ((c.toNat : Int) - 48) < (10 : Int) ^ (k + 1) ∧ numF 10 0 l = numF 10 (a * 10 + ((c.toNat : Int) - 48)) (l.drop (k + 1))) := Lib.hid ⟨by omega, hs.1, by rw [hdec]; congr 1; omega⟩
        clear hs hstep hdec hd
        go_wp2
        refine ⟨⟨k + 1, a * 10 + ((c.toNat : Int) - 48), rfl, (by first | rfl | (congr 1; omega)), (by first | rfl | (congr 1; omega)), by omega, HN⟩, by simp [intOf]; omega⟩
      obtain ⟨x0, x1, x2, x3, x4⟩ := lo_dg c hdig
      have hlow := lower_any c _ rfl
      have hlow95 : ∀ W : World, Calls Tryd.prog 80 #[.int .u8 95] W fun e w' => e = .returned (.int .u8 127) ∧ W = w' := fun W => lower_any 95 127 (by decide) W
      generalize loB c = x at *
      have hd : ¬ dg c < 10 := by
        by_cases hx : 97 ≤ x ∧ x ≤ 102
        · have := x2 hx.1 hx.2; omega
        · have := x3 hx; omega
      rw [if_neg hd] at hdec
      have HR := Lib.hid (show num 10 l = none by rw [HN0.out]; exact hdec)
      clear hstep hdec hd x2 x3 x4
      go_wp2_with (go_at_call 80; (first | refine (hlow _).mono ?_ | refine (hlow95 _).mono ?_); rintro e w' ⟨rfl, rfl⟩)
      all_goals go_ret2
      all_goals exact ⟨by rw [HR.out]; rfl, HK.out⟩
    · have hF : numF 10 a (l.drop k) = some a := by rw [List.drop_eq_nil_of_le (by omega)]; rfl
      rw [hF] at hdec
      have HR := Lib.hid (show num 10 l = some a by rw [HN0.out]; exact hdec)
      clear hF hdec ha
      go_wp2
      go_ret2
      exact ⟨by rw [HR.out]; rfl, HK.out⟩
set_option maxHeartbeats 8000000 in
set_option maxRecDepth 100000 in
theorem pu16_any (l : List UInt8) (w : World) (hl : l.length ≤ 8) : Calls Tryd.prog 75 #[.string ⟨l.toArray⟩, .int .i64 16, .int .i64 32] w fun e w' => e = .returned (puT (num 16 l)) ∧ Kept w w' := by
  have HL := Lib.hid hl
  by_cases hne : l = []
  · subst hne
    go_enter Tryd.func75, Tryd.ntmps75
    go_wp2
    go_ret2
    exact ⟨rfl, Kept.refl _⟩
  have hemp : l.isEmpty = false := by simpa using hne
  have HN0 := Lib.hid (show num 16 l = numF 16 0 l by unfold num; rw [if_neg hne])
  have hsz : (ByteArray.mk l.toArray).size = l.length := List.size_toArray
  have hcv := Lib.run_convert_string_bytes (P := Tryd.prog) w 9 30 5 ⟨l.toArray⟩ Tryd.underlying9 Tryd.underlying30 Tryd.underlying5
  have hB : ∀ j, j < l.length → (Lib.bytesWorld w 5 ⟨l.toArray⟩).cell? ⟨w.heap.size, j, none⟩ = some (.int .u8 (l.getD j 0).toNat) := fun j hj => by
    have := Lib.bytesWorld_cell w 5 ⟨l.toArray⟩ j (by rw [hsz]; exact hj)
    simpa using this
  have HK := Lib.hid (Kept.of_below (Lib.bytesWorld_below w 5 ⟨l.toArray⟩))
  have hpw := Lib.hid (show (16 : Int) ^ l.length ≤ 4294967296 by
    have h8 : ∀ n : Nat, n ≤ 8 → (16 : Int) ^ n ≤ 4294967296 := by
      intro n hn
      have : ∀ m : Fin 9, (16 : Int) ^ m.val ≤ 4294967296 := by decide +kernel
      exact this ⟨n, by omega⟩
    exact h8 _ hl)
  generalize Lib.bytesWorld w 5 ⟨l.toArray⟩ = W1 at *
  clear hne hl
  go_enter Tryd.func75, Tryd.ntmps75
  go_wp2
  go_loop [12, 13, 101] (fun vu vn vi => ∃ (k : Nat) (a : Int), vu = .bool false ∧ vn = .int .u64 a ∧ vi = .int .i64 k ∧ k ≤ l.length ∧ Hid (0 ≤ a ∧ a < (16 : Int) ^ k ∧ numF 16 0 l = numF 16 a (l.drop k)))
    (fun _ _ vi => l.length - (intOf vi).toNat)
  case atStart => exact ⟨0, 0, rfl, rfl, rfl, by omega, Lib.hid ⟨by omega, by decide, rfl⟩⟩
  case round =>
    obtain ⟨k, a, rfl, rfl, rfl, hk, hh⟩ := hrel
    obtain ⟨a0, ha, hdec⟩ := hh.out
    have hkl := HL.out
    clear hh
    by_cases hkn : k < l.length
    · have hc := hB k hkn
      rw [drop_at hkn] at hdec
      have hstep := fun d hd => pow_step 16 (by omega) l.length k hkn 4294967296 hpw.out a d ha hd
      generalize l.getD k 0 = c at hc hdec
      have hc256 : c.toNat < 256 := c.toNat_lt
      have acut : a < 4294967296 := by have := hstep 0 (by omega); omega
      clear hB ha
      rw [numF] at hdec
      by_cases hdig : 48 ≤ c.toNat ∧ c.toNat ≤ 57
      · have hd : dg c = (c.toNat : Int) - 48 := by unfold dg; rw [if_pos hdig]
        rw [if_pos (by omega), hd] at hdec
        have hs := hstep ((c.toNat : Int) - 48) (by omega)
        obtain ⟨hd0, hd1⟩ := hdig
        have hov : a * 16 + ((c.toNat : Int) - 48) ≤ 4294967295 := by omega
        have HN : Hid (0 ≤ a * 16 + ((c.toNat : Int) - 48) ∧ a * 16 + ((c.toNat : Int) - 48) < (16 : Int) ^ (k + 1) ∧ numF 16 0 l = numF 16 (a * 16 + ((c.toNat : Int) - 48)) (l.drop (k + 1))) := Lib.hid ⟨by omega, hs.1, by rw [hdec]; congr 1; omega⟩
        clear hs hstep hdec hd
        go_wp2
        refine ⟨⟨k + 1, a * 16 + ((c.toNat : Int) - 48), rfl, (by first | rfl | (congr 1; omega)), (by first | rfl | (congr 1; omega)), by omega, HN⟩, by simp [intOf]; omega⟩
      obtain ⟨x0, x1, x2, x3, x4⟩ := lo_dg c hdig
      have hlow := lower_any c _ rfl
      have hlow95 : ∀ W : World, Calls Tryd.prog 80 #[.int .u8 95] W fun e w' => e = .returned (.int .u8 127) ∧ W = w' := fun W => lower_any 95 127 (by decide) W
      generalize loB c = x at *
      by_cases hx : 97 ≤ x ∧ x ≤ 102
      · have hd := x2 hx.1 hx.2
        rw [if_pos (by omega), hd] at hdec
        have hs := hstep (x - 87) (by omega)
        obtain ⟨hd0, hd1⟩ := hx
        have hov : a * 16 + (x - 87) ≤ 4294967295 := by omega
        have HN : Hid (0 ≤ a * 16 + (x - 87) ∧ a * 16 + (x - 87) < (16 : Int) ^ (k + 1) ∧ numF 16 0 l = numF 16 (a * 16 + (x - 87)) (l.drop (k + 1))) := Lib.hid ⟨by omega, hs.1, by rw [hdec]; congr 1; omega⟩
        have hdig' : ¬ (48 ≤ (c.toNat : Int) ∧ (c.toNat : Int) ≤ 57) := by omega
        have h95 : ((c.toNat : Int) == 95) = false := by
          refine beq_eq_false_iff_ne.2 (fun e => ?_)
          have := x4 (by omega); omega
        clear hs hstep hdec hd x2 x3 x4
        go_wp2_with (go_at_call 80; (first | refine (hlow _).mono ?_ | refine (hlow95 _).mono ?_); rintro e w' ⟨rfl, rfl⟩)
        all_goals
          refine ⟨⟨k + 1, a * 16 + (x - 87), rfl, (by first | rfl | (congr 1; omega)), (by first | rfl | (congr 1; omega)), by omega, HN⟩, by simp [intOf]; omega⟩
      have hd := x3 hx
      rw [if_neg (by omega)] at hdec
      have HR := Lib.hid (show num 16 l = none by rw [HN0.out]; exact hdec)
      clear hstep hdec hd x2 x3 x4
      go_wp2_with (go_at_call 80; (first | refine (hlow _).mono ?_ | refine (hlow95 _).mono ?_); rintro e w' ⟨rfl, rfl⟩)
      all_goals go_ret2
      all_goals exact ⟨by rw [HR.out]; rfl, HK.out⟩
    · have hF : numF 16 a (l.drop k) = some a := by rw [List.drop_eq_nil_of_le (by omega)]; rfl
      rw [hF] at hdec
      have HR := Lib.hid (show num 16 l = some a by rw [HN0.out]; exact hdec)
      clear hF hdec ha
      go_wp2
      go_ret2
      exact ⟨by rw [HR.out]; rfl, HK.out⟩
end Go.Proofs.YtpkbcomdkamglaaDoor
