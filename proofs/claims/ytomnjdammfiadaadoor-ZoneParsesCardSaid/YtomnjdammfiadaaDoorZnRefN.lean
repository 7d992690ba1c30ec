/- Contracts of the document's answer for zones: numbers, times. -/
import Derived.Test.YtomnjdammfiadaaDoorZnRef
namespace Go.Proofs.YtomnjdammfiadaaDoor
open Go.ChangeShapes Go.WideShapes Go.ChangeAt Go.RowKit
open Zn
def pre (m : Nat) : List UInt8 := if m = 0 then [] else Lib.decDigits m
theorem pre_step (m : Nat) (h : 0 < m) : pre m = pre (m / 10) ++ [UInt8.ofNat (48 + m % 10)] := by
  unfold pre
  rw [if_neg (by omega)]
  by_cases h10 : m < 10
  · rw [if_pos (by omega), Lib.decDigits_one h10, Nat.mod_eq_of_lt h10]; rfl
  · rw [if_neg (by omega), Lib.decDigits, dif_neg h10]
theorem dec_pre (m : Nat) : Lib.decDigits m = pre (m / 10) ++ [UInt8.ofNat (48 + m % 10)] := by
  by_cases h : m = 0
  · subst h; rw [Lib.decDigits_one (by omega)]; rfl
  · rw [← pre_step m (by omega), pre, if_neg h]
theorem digit_at (k : Nat) (h : k < 10) : (ByteArray.mk #[48, 49, 50, 51, 52, 53, 54, 55, 56, 57]).extract k (k + 1) = ⟨#[UInt8.ofNat (48 + k)]⟩ := by
  have : k = 0 ∨ k = 1 ∨ k = 2 ∨ k = 3 ∨ k = 4 ∨ k = 5 ∨ k = 6 ∨ k = 7 ∨ k = 8 ∨ k = 9 := by omega
  rcases this with rfl | rfl | rfl | rfl | rfl | rfl | rfl | rfl | rfl | rfl <;> rfl
def NbIn (n : Nat) (a b : Value) : Prop := ∃ (m : Nat) (o : List UInt8), m ≤ n ∧ a = .int .i64 m ∧ b = .string ⟨o.toArray⟩ ∧ Lib.decDigits n = pre m ++ o ∧ o.length + m ≤ n + 1
theorem slice_digit (n : Nat) (w : World) : (Instr.slice 9 (.string ⟨#[48, 49, 50, 51, 52, 53, 54, 55, 56, 57]⟩) (some (.int .i64 ((n : Int) % 10))) (some (.int .i64 ((n : Int) % 10 + 1))) none).run Tryd.prog w = .ok (.string ⟨#[UInt8.ofNat (48 + n % 10)]⟩) w := by
  rw [run_slice_string w 9 _ .i64 .i64 _ _ Tryd.underlying9 (by omega) (by omega) (by show (n : Int) % 10 + 1 ≤ 10; omega)]
  rw [show ((n : Int) % 10).toNat = n % 10 by omega, show ((n : Int) % 10 + 1).toNat = n % 10 + 1 by omega, digit_at _ (by omega)]
set_option maxHeartbeats 1000000 in
theorem number_nat (n : Nat) (w : World) (hn : n ≤ 1000000) :
    Calls Tryd.prog 16 #[.int .i64 n] w fun e w' => e = .returned (.string ⟨(Lib.decDigits n).toArray⟩) ∧ w = w' := by
  have hx := slice_digit n
  have hd := Lib.hid (dec_pre n)
  go_enter Tryd.func16, Tryd.ntmps16
  go_wp2_with fail
  clear hx
  go_loop [0, 3] (fun a b => NbIn n a b) (fun a _ => (intOf a).toNat)
  case atStart => exact ⟨n / 10, [UInt8.ofNat (48 + n % 10)], by omega, by go_num, by simp, hd.out, by simp only [List.length_cons, List.length_nil]; omega⟩
  case round =>
    obtain ⟨m, o, hm, rfl, rfl, hD, hl⟩ := hrel
    have HD := Lib.hid hD; clear hD
    by_cases h0 : 0 < m
    · have hx := slice_digit m
      have hp := Lib.hid (pre_step m h0)
      go_wp2
      go_round
      case rel => exact ⟨m / 10, UInt8.ofNat (48 + m % 10) :: o, by omega, by go_num, by congr 1; apply ByteArray.ext; simp [ByteArray.data_append], by rw [HD.out, hp.out]; simp, by simp only [List.length_cons]; omega⟩
      case measure => simp [intOf]; omega
    · have hE := Lib.hid (show Lib.decDigits n = o by rw [HD.out, show m = 0 by omega]; rfl)
      go_wp2
      go_ret
      exact ⟨ret_str (by rw [hE.out]), rfl⟩
theorem rNumber_any (n : Int) (w : World) (h0 : 0 ≤ n) (h1 : n ≤ 1000000) :
    Calls Tryd.prog 16 #[.int .i64 n] w fun e w' => e = .returned (.string ⟨(dec n).toArray⟩) ∧ w = w' := by
  obtain ⟨k, rfl⟩ := Int.eq_ofNat_of_zero_le h0
  exact number_nat k w (by omega)
theorem two_any (n : Int) (w : World) (h0 : 0 ≤ n) (h1 : n < 100) :
    Calls Tryd.prog 41 #[.int .i64 n] w fun e w' => e = .returned (.string ⟨(d2 n.toNat).toArray⟩) ∧ w = w' := by
  have l1 : (dec n).length ≤ 3 := dec_len3 (by omega)
  by_cases h : n < 10
  · have he := Lib.hid (show d2 n.toNat = 48 :: dec n by rw [dec_one h0 h]; simp only [d2]; rw [show n.toNat / 10 = 0 by omega, show n.toNat % 10 = n.toNat by omega]; rfl)
    go_enter Tryd.func41, Tryd.ntmps41
    go_wp2_with fail
    refine (rNumber_any _ _ (by omega) (by omega)).mono ?_
    rintro e w1 ⟨rfl, rfl⟩
    go_wp2
    go_ret
    exact ⟨ret_str (by rw [he.out]; apply ByteArray.ext; simp [ByteArray.data_append]), rfl⟩
  · have he := Lib.hid (show d2 n.toNat = dec n by unfold dec; rw [Lib.decDigits_two (by omega) (by omega)]; rfl)
    go_enter Tryd.func41, Tryd.ntmps41
    go_wp2_with fail
    refine (rNumber_any _ _ (by omega) (by omega)).mono ?_
    rintro e w1 ⟨rfl, rfl⟩
    go_wp2
    go_ret
    exact ⟨ret_str (by rw [he.out]), rfl⟩
set_option maxHeartbeats 1000000 in
theorem rTime_p0 (u : Nat) (w : World) (hu : u < 1000000) (a : u % 3600 = 0) :
    Calls Tryd.prog 23 #[.int .i64 (u : Int)] w fun e w' => e = .returned (.string ⟨(dec ((u : Int) / 3600)).toArray⟩) ∧ w = w' := by
  have l1 : (dec ((u : Int) / 3600)).length ≤ 3 := dec_len3 (by omega)
  have l2 : ∀ k, (d2 k).length = 2 := d2_len
  have a1 : (u : Int) % 3600 = 0 := by omega
  have b1 : (u : Int) % 60 = 0 := by omega
  clear a
  have c1 := Lib.hid (show ((u : Int) / 60 % 60).toNat = u % 3600 / 60 by omega)
  have c2 := Lib.hid (show ((u : Int) % 60).toNat = u % 60 by omega)
  go_enter Tryd.func23, Tryd.ntmps23
  go_wp2_with fail
  refine (rNumber_any _ _ (by omega) (by omega)).mono ?_
  rintro e w1 ⟨rfl, rfl⟩
  go_wp2
  go_ret
  exact ⟨ret_str (by apply ByteArray.ext; simp [ByteArray.data_append]), rfl⟩
set_option maxHeartbeats 1000000 in
theorem rTime_pm (u : Nat) (w : World) (hu : u < 1000000) (a : ¬ u % 3600 = 0) (b : u % 60 = 0) :
    Calls Tryd.prog 23 #[.int .i64 (u : Int)] w fun e w' => e = .returned (.string ⟨(dec ((u : Int) / 3600) ++ (58 :: d2 (u % 3600 / 60))).toArray⟩) ∧ w = w' := by
  have l1 : (dec ((u : Int) / 3600)).length ≤ 3 := dec_len3 (by omega)
  have l2 : ∀ k, (d2 k).length = 2 := d2_len
  have a1 : ¬ (u : Int) % 3600 = 0 := by omega
  have b1 : (u : Int) % 60 = 0 := by omega
  clear a b
  have c1 := Lib.hid (show ((u : Int) / 60 % 60).toNat = u % 3600 / 60 by omega)
  have c2 := Lib.hid (show ((u : Int) % 60).toNat = u % 60 by omega)
  go_enter Tryd.func23, Tryd.ntmps23
  go_wp2_with fail
  refine (rNumber_any _ _ (by omega) (by omega)).mono ?_
  rintro e w1 ⟨rfl, rfl⟩
  go_wp2_with fail
  refine (two_any _ _ (by omega) (by omega)).mono ?_
  rintro e w2 ⟨rfl, rfl⟩
  rw [c1.out]
  go_wp2
  go_ret
  exact ⟨ret_str (by apply ByteArray.ext; simp [ByteArray.data_append]), rfl⟩
set_option maxHeartbeats 1000000 in
theorem rTime_ps (u : Nat) (w : World) (hu : u < 1000000) (b : ¬ u % 60 = 0) :
    Calls Tryd.prog 23 #[.int .i64 (u : Int)] w fun e w' => e = .returned (.string ⟨(dec ((u : Int) / 3600) ++ (58 :: d2 (u % 3600 / 60)) ++ (58 :: d2 (u % 60))).toArray⟩) ∧ w = w' := by
  have l1 : (dec ((u : Int) / 3600)).length ≤ 3 := dec_len3 (by omega)
  have l2 : ∀ k, (d2 k).length = 2 := d2_len
  have a1 : ¬ (u : Int) % 3600 = 0 := by omega
  have b1 : ¬ (u : Int) % 60 = 0 := by omega
  clear b
  have c1 := Lib.hid (show ((u : Int) / 60 % 60).toNat = u % 3600 / 60 by omega)
  have c2 := Lib.hid (show ((u : Int) % 60).toNat = u % 60 by omega)
  go_enter Tryd.func23, Tryd.ntmps23
  go_wp2_with fail
  refine (rNumber_any _ _ (by omega) (by omega)).mono ?_
  rintro e w1 ⟨rfl, rfl⟩
  go_wp2_with fail
  refine (two_any _ _ (by omega) (by omega)).mono ?_
  rintro e w2 ⟨rfl, rfl⟩
  rw [c1.out]
  go_wp2_with fail
  refine (two_any _ _ (by omega) (by omega)).mono ?_
  rintro e w2 ⟨rfl, rfl⟩
  rw [c2.out]
  go_wp2
  go_ret
  exact ⟨ret_str (by apply ByteArray.ext; simp [ByteArray.data_append]), rfl⟩
set_option maxHeartbeats 1000000 in
theorem rTime_n0 (u : Nat) (w : World) (hu : u < 1000000) (hp : 1 ≤ u) (a : u % 3600 = 0) :
    Calls Tryd.prog 23 #[.int .i64 (-(u : Int))] w fun e w' => e = .returned (.string ⟨([45] ++ dec ((u : Int) / 3600)).toArray⟩) ∧ w = w' := by
  have l1 : (dec ((u : Int) / 3600)).length ≤ 3 := dec_len3 (by omega)
  have l2 : ∀ k, (d2 k).length = 2 := d2_len
  have a1 : (u : Int) % 3600 = 0 := by omega
  have b1 : (u : Int) % 60 = 0 := by omega
  clear a
  have c1 := Lib.hid (show ((u : Int) / 60 % 60).toNat = u % 3600 / 60 by omega)
  have c2 := Lib.hid (show ((u : Int) % 60).toNat = u % 60 by omega)
  go_enter Tryd.func23, Tryd.ntmps23
  go_wp2_with fail
  refine (rNumber_any _ _ (by omega) (by omega)).mono ?_
  rintro e w1 ⟨rfl, rfl⟩
  go_wp2
  go_ret
  exact ⟨ret_str (by apply ByteArray.ext; simp [ByteArray.data_append]), rfl⟩
set_option maxHeartbeats 1000000 in
theorem rTime_nm (u : Nat) (w : World) (hu : u < 1000000) (hp : 1 ≤ u) (a : ¬ u % 3600 = 0) (b : u % 60 = 0) :
    Calls Tryd.prog 23 #[.int .i64 (-(u : Int))] w fun e w' => e = .returned (.string ⟨([45] ++ dec ((u : Int) / 3600) ++ (58 :: d2 (u % 3600 / 60))).toArray⟩) ∧ w = w' := by
  have l1 : (dec ((u : Int) / 3600)).length ≤ 3 := dec_len3 (by omega)
  have l2 : ∀ k, (d2 k).length = 2 := d2_len
  have a1 : ¬ (u : Int) % 3600 = 0 := by omega
  have b1 : (u : Int) % 60 = 0 := by omega
  clear a b
  have c1 := Lib.hid (show ((u : Int) / 60 % 60).toNat = u % 3600 / 60 by omega)
  have c2 := Lib.hid (show ((u : Int) % 60).toNat = u % 60 by omega)
  go_enter Tryd.func23, Tryd.ntmps23
  go_wp2_with fail
  refine (rNumber_any _ _ (by omega) (by omega)).mono ?_
  rintro e w1 ⟨rfl, rfl⟩
  go_wp2_with fail
  refine (two_any _ _ (by omega) (by omega)).mono ?_
  rintro e w2 ⟨rfl, rfl⟩
  rw [c1.out]
  go_wp2
  go_ret
  exact ⟨ret_str (by apply ByteArray.ext; simp [ByteArray.data_append]), rfl⟩
set_option maxHeartbeats 1000000 in
theorem rTime_ns (u : Nat) (w : World) (hu : u < 1000000) (hp : 1 ≤ u) (b : ¬ u % 60 = 0) :
    Calls Tryd.prog 23 #[.int .i64 (-(u : Int))] w fun e w' => e = .returned (.string ⟨([45] ++ dec ((u : Int) / 3600) ++ (58 :: d2 (u % 3600 / 60)) ++ (58 :: d2 (u % 60))).toArray⟩) ∧ w = w' := by
  have l1 : (dec ((u : Int) / 3600)).length ≤ 3 := dec_len3 (by omega)
  have l2 : ∀ k, (d2 k).length = 2 := d2_len
  have a1 : ¬ (u : Int) % 3600 = 0 := by omega
  have b1 : ¬ (u : Int) % 60 = 0 := by omega
  clear b
  have c1 := Lib.hid (show ((u : Int) / 60 % 60).toNat = u % 3600 / 60 by omega)
  have c2 := Lib.hid (show ((u : Int) % 60).toNat = u % 60 by omega)
  go_enter Tryd.func23, Tryd.ntmps23
  go_wp2_with fail
  refine (rNumber_any _ _ (by omega) (by omega)).mono ?_
  rintro e w1 ⟨rfl, rfl⟩
  go_wp2_with fail
  refine (two_any _ _ (by omega) (by omega)).mono ?_
  rintro e w2 ⟨rfl, rfl⟩
  rw [c1.out]
  go_wp2_with fail
  refine (two_any _ _ (by omega) (by omega)).mono ?_
  rintro e w2 ⟨rfl, rfl⟩
  rw [c2.out]
  go_wp2
  go_ret
  exact ⟨ret_str (by apply ByteArray.ext; simp [ByteArray.data_append]), rfl⟩
theorem rTime_any (n : Int) (w : World) (h1 : -1000000 < n) (h2 : n < 1000000) :
    Calls Tryd.prog 23 #[.int .i64 n] w fun e w' => e = .returned (.string ⟨(tt n).toArray⟩) ∧ w = w' := by
  by_cases hn : n < 0
  · obtain ⟨u, rfl⟩ : ∃ u : Nat, n = -(u : Int) := ⟨n.natAbs, by omega⟩
    rw [show tt (-(u : Int)) = [45] ++ ttU u by unfold tt; rw [if_pos hn]; simp, ttU_eq]
    unfold ttM ttS
    by_cases a : u % 3600 = 0
    · rw [if_pos a, if_pos (by omega), List.append_nil, List.append_nil]
      exact rTime_n0 u w (by omega) (by omega) a
    · by_cases b : u % 60 = 0
      · rw [if_neg a, if_pos b, List.append_nil, ← List.append_assoc]
        exact rTime_nm u w (by omega) (by omega) a b
      · rw [if_neg a, if_neg b, ← List.append_assoc, ← List.append_assoc]
        exact rTime_ns u w (by omega) (by omega) b
  · obtain ⟨u, rfl⟩ := Int.eq_ofNat_of_zero_le (show 0 ≤ n by omega)
    rw [show tt (u : Int) = ttU u by unfold tt; rw [if_neg hn]; simp, ttU_eq]
    unfold ttM ttS
    by_cases a : u % 3600 = 0
    · rw [if_pos a, if_pos (by omega), List.append_nil, List.append_nil]
      exact rTime_p0 u w (by omega) a
    · by_cases b : u % 60 = 0
      · rw [if_neg a, if_pos b, List.append_nil]
        exact rTime_pm u w (by omega) a b
      · rw [if_neg a, if_neg b]
        exact rTime_ps u w (by omega) b
end Go.Proofs.YtomnjdammfiadaaDoor
