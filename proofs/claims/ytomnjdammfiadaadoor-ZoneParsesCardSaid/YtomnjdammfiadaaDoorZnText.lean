/- Contracts of package zone: texts of names, times and rules. -/
import Derived.Test.YtomnjdammfiadaaDoorZnMayZ
namespace Go.Proofs.YtomnjdammfiadaaDoor
open Go.ChangeShapes Go.WideShapes Go.ChangeAt Go.RowKit
open Zn
theorem itoa_int (n : Int) (w : World) (h0 : 0 ≤ n) (h1 : n ≤ 1000000) (htab : Tab w) :
    Calls Tryd.prog 38 #[.int .i64 n] w fun e w' => e = .returned (.string ⟨(dec n).toArray⟩) ∧ Kept w w' := by
  obtain ⟨k, rfl⟩ := Int.eq_ofNat_of_zero_le h0
  refine (Tryd.strconv_Itoa k (by omega) (by omega) w htab).mono ?_
  rintro e w1 ⟨rfl, m, os, rfl⟩
  rw [Lib.itoa_nonneg]
  exact ⟨rfl, ((Kept.refl w).drewN m).grow os⟩
theorem itoa_small (n : Int) (w : World) (h0 : 0 ≤ n) (h1 : n < 100) :
    Calls Tryd.prog 38 #[.int .i64 n] w fun e w' => e = .returned (.string ⟨(dec n).toArray⟩) ∧ w = w' := by
  obtain ⟨k, rfl⟩ := Int.eq_ofNat_of_zero_le h0
  refine (Tryd.strconv_Itoa_small k (by omega) w).mono ?_
  rintro e w1 ⟨rfl, rfl⟩
  exact ⟨rfl, rfl⟩
theorem dec_len3 {n : Int} (h : n < 1000) : (dec n).length ≤ 3 := by
  unfold dec
  generalize hk : n.toNat = k
  have hk' : k < 1000 := by omega
  rw [Lib.decDigits]
  split
  · simp
  · rw [List.length_append]
    rw [Lib.decDigits]
    split
    · simp
    · rw [List.length_append, Lib.decDigits_one (by omega)]; simp
theorem dec_one {n : Int} (h0 : 0 ≤ n) (h : n < 10) : dec n = [UInt8.ofNat (48 + n.toNat)] := by
  unfold dec; rw [Lib.decDigits_one (by omega)]
theorem d2_eq (n : Int) (h0 : 0 ≤ n) (h1 : n < 100) : dec (n / 10) ++ dec (n % 10) = d2 n.toNat := by
  rw [dec_one (by omega) (by omega), dec_one (by omega) (by omega)]
  simp only [d2, List.cons_append, List.nil_append]
  rw [show (n / 10).toNat = n.toNat / 10 by omega, show (n % 10).toNat = n.toNat % 10 by omega]
theorem app_mk (a b : List UInt8) : (⟨a.toArray⟩ ++ ⟨b.toArray⟩ : ByteArray) = ⟨(a ++ b).toArray⟩ := by
  apply ByteArray.ext; simp [ByteArray.data_append]
theorem ret_str {a b : ByteArray} (h : a = b) : Ending.returned (.string a) = .returned (.string b) := by rw [h]
theorem twoDigits_any (n : Int) (w : World) (h0 : 0 ≤ n) (h1 : n < 100) :
    Calls Tryd.prog 39 #[.int .i64 n] w fun e w' => e = .returned (.string ⟨(d2 n.toNat).toArray⟩) ∧ w = w' := by
  have l1 : (dec (n / 10)).length ≤ 3 := dec_len3 (by omega)
  have l2 : (dec (n % 10)).length ≤ 3 := dec_len3 (by omega)
  have he := Lib.hid (d2_eq n h0 h1)
  go_enter Tryd.func39, Tryd.ntmps39
  go_wp2_with fail
  refine (itoa_small _ _ (by omega) (by omega)).mono ?_
  rintro e w1 ⟨rfl, rfl⟩
  go_wp2_with fail
  refine (itoa_small _ _ (by omega) (by omega)).mono ?_
  rintro e w1 ⟨rfl, rfl⟩
  go_wp2
  go_ret
  exact ⟨by rw [← he.out, ← app_mk]; rfl, rfl⟩
theorem nameText_any (l : List UInt8) (w : World) (h : mayN l = true) :
    Calls Tryd.prog 19 #[.string ⟨l.toArray⟩] w fun e w' => e = .returned (.string ⟨(nt l).toArray⟩) ∧ w = w' := by
  have hl : l.length ≤ 10 := by simp [mayN] at h; omega
  clear h
  go_enter Tryd.func19, Tryd.ntmps19
  go_wp2_with fail
  refine (all_ltr l _ (by omega)).mono ?_
  rintro e w1 ⟨rfl, rfl⟩
  cases ha : l.all ltr with
  | true =>
    have HA := Lib.hid ha; clear ha
    go_wp2
    go_ret
    exact ⟨by unfold nt; rw [HA.out]; rfl, rfl⟩
  | false =>
    have HA := Lib.hid ha; clear ha
    go_wp2
    go_ret
    exact ⟨by unfold nt; rw [HA.out, if_neg (by decide), show (60 :: (l ++ [62])) = [60] ++ l ++ [62] by simp, ← app_mk, ← app_mk]; rfl, rfl⟩
theorem d2_len (n : Nat) : (d2 n).length = 2 := rfl
set_option maxHeartbeats 1000000 in
theorem timeText_p0 (u : Nat) (w : World) (hu : u < 1000000) (a : u % 3600 = 0) (htab : Tab w) :
    Calls Tryd.prog 20 #[.int .i64 (u : Int)] w fun e w' => e = .returned (.string ⟨(dec ((u : Int) / 3600)).toArray⟩) ∧ Kept w w' := by
  have l1 : (dec ((u : Int) / 3600)).length ≤ 3 := dec_len3 (by omega)
  have l2 : ∀ k, (d2 k).length = 2 := d2_len
  have HT := Lib.hid htab; clear htab
  have a1 : (u : Int) % 3600 = 0 := by omega
  have b1 : (u : Int) % 60 = 0 := by omega
  clear a
  have c1 := Lib.hid (show ((u : Int) % 3600 / 60).toNat = u % 3600 / 60 by omega)
  have c2 := Lib.hid (show ((u : Int) % 60).toNat = u % 60 by omega)
  go_enter Tryd.func20, Tryd.ntmps20
  go_wp2_with fail
  refine (itoa_int _ _ (by omega) (by omega) HT.out).mono ?_
  rintro e w1 ⟨rfl, k1⟩
  go_wp2
  go_ret
  exact ⟨ret_str (by apply ByteArray.ext; simp [ByteArray.data_append]), k1⟩
set_option maxHeartbeats 1000000 in
theorem timeText_pm (u : Nat) (w : World) (hu : u < 1000000) (a : ¬ u % 3600 = 0) (b : u % 60 = 0) (htab : Tab w) :
    Calls Tryd.prog 20 #[.int .i64 (u : Int)] w fun e w' => e = .returned (.string ⟨(dec ((u : Int) / 3600) ++ (58 :: d2 (u % 3600 / 60))).toArray⟩) ∧ Kept w w' := by
  have l1 : (dec ((u : Int) / 3600)).length ≤ 3 := dec_len3 (by omega)
  have l2 : ∀ k, (d2 k).length = 2 := d2_len
  have HT := Lib.hid htab; clear htab
  have a1 : ¬ (u : Int) % 3600 = 0 := by omega
  have b1 : (u : Int) % 60 = 0 := by omega
  clear a b
  have c1 := Lib.hid (show ((u : Int) % 3600 / 60).toNat = u % 3600 / 60 by omega)
  have c2 := Lib.hid (show ((u : Int) % 60).toNat = u % 60 by omega)
  go_enter Tryd.func20, Tryd.ntmps20
  go_wp2_with fail
  refine (itoa_int _ _ (by omega) (by omega) HT.out).mono ?_
  rintro e w1 ⟨rfl, k1⟩
  go_wp2_with fail
  refine (twoDigits_any _ _ (by omega) (by omega)).mono ?_
  rintro e w2 ⟨rfl, rfl⟩
  rw [c1.out]
  go_wp2
  go_ret
  exact ⟨ret_str (by apply ByteArray.ext; simp [ByteArray.data_append]), k1⟩
set_option maxHeartbeats 1000000 in
theorem timeText_ps (u : Nat) (w : World) (hu : u < 1000000) (b : ¬ u % 60 = 0) (htab : Tab w) :
    Calls Tryd.prog 20 #[.int .i64 (u : Int)] w fun e w' => e = .returned (.string ⟨(dec ((u : Int) / 3600) ++ (58 :: d2 (u % 3600 / 60)) ++ (58 :: d2 (u % 60))).toArray⟩) ∧ Kept w w' := by
  have l1 : (dec ((u : Int) / 3600)).length ≤ 3 := dec_len3 (by omega)
  have l2 : ∀ k, (d2 k).length = 2 := d2_len
  have HT := Lib.hid htab; clear htab
  have a1 : ¬ (u : Int) % 3600 = 0 := by omega
  have b1 : ¬ (u : Int) % 60 = 0 := by omega
  clear b
  have c1 := Lib.hid (show ((u : Int) % 3600 / 60).toNat = u % 3600 / 60 by omega)
  have c2 := Lib.hid (show ((u : Int) % 60).toNat = u % 60 by omega)
  go_enter Tryd.func20, Tryd.ntmps20
  go_wp2_with fail
  refine (itoa_int _ _ (by omega) (by omega) HT.out).mono ?_
  rintro e w1 ⟨rfl, k1⟩
  go_wp2_with fail
  refine (twoDigits_any _ _ (by omega) (by omega)).mono ?_
  rintro e w2 ⟨rfl, rfl⟩
  rw [c1.out]
  go_wp2_with fail
  refine (twoDigits_any _ _ (by omega) (by omega)).mono ?_
  rintro e w2 ⟨rfl, rfl⟩
  rw [c2.out]
  go_wp2
  go_ret
  exact ⟨ret_str (by apply ByteArray.ext; simp [ByteArray.data_append]), k1⟩
set_option maxHeartbeats 1000000 in
theorem timeText_n0 (u : Nat) (w : World) (hu : u < 1000000) (hp : 1 ≤ u) (a : u % 3600 = 0) (htab : Tab w) :
    Calls Tryd.prog 20 #[.int .i64 (-(u : Int))] w fun e w' => e = .returned (.string ⟨([45] ++ dec ((u : Int) / 3600)).toArray⟩) ∧ Kept w w' := by
  have l1 : (dec ((u : Int) / 3600)).length ≤ 3 := dec_len3 (by omega)
  have l2 : ∀ k, (d2 k).length = 2 := d2_len
  have HT := Lib.hid htab; clear htab
  have a1 : (u : Int) % 3600 = 0 := by omega
  have b1 : (u : Int) % 60 = 0 := by omega
  clear a
  have c1 := Lib.hid (show ((u : Int) % 3600 / 60).toNat = u % 3600 / 60 by omega)
  have c2 := Lib.hid (show ((u : Int) % 60).toNat = u % 60 by omega)
  go_enter Tryd.func20, Tryd.ntmps20
  go_wp2_with fail
  refine (itoa_int _ _ (by omega) (by omega) HT.out).mono ?_
  rintro e w1 ⟨rfl, k1⟩
  go_wp2
  go_ret
  exact ⟨ret_str (by apply ByteArray.ext; simp [ByteArray.data_append]), k1⟩
set_option maxHeartbeats 1000000 in
theorem timeText_nm (u : Nat) (w : World) (hu : u < 1000000) (hp : 1 ≤ u) (a : ¬ u % 3600 = 0) (b : u % 60 = 0) (htab : Tab w) :
    Calls Tryd.prog 20 #[.int .i64 (-(u : Int))] w fun e w' => e = .returned (.string ⟨([45] ++ dec ((u : Int) / 3600) ++ (58 :: d2 (u % 3600 / 60))).toArray⟩) ∧ Kept w w' := by
  have l1 : (dec ((u : Int) / 3600)).length ≤ 3 := dec_len3 (by omega)
  have l2 : ∀ k, (d2 k).length = 2 := d2_len
  have HT := Lib.hid htab; clear htab
  have a1 : ¬ (u : Int) % 3600 = 0 := by omega
  have b1 : (u : Int) % 60 = 0 := by omega
  clear a b
  have c1 := Lib.hid (show ((u : Int) % 3600 / 60).toNat = u % 3600 / 60 by omega)
  have c2 := Lib.hid (show ((u : Int) % 60).toNat = u % 60 by omega)
  go_enter Tryd.func20, Tryd.ntmps20
  go_wp2_with fail
  refine (itoa_int _ _ (by omega) (by omega) HT.out).mono ?_
  rintro e w1 ⟨rfl, k1⟩
  go_wp2_with fail
  refine (twoDigits_any _ _ (by omega) (by omega)).mono ?_
  rintro e w2 ⟨rfl, rfl⟩
  rw [c1.out]
  go_wp2
  go_ret
  exact ⟨ret_str (by apply ByteArray.ext; simp [ByteArray.data_append]), k1⟩
set_option maxHeartbeats 1000000 in
theorem timeText_ns (u : Nat) (w : World) (hu : u < 1000000) (hp : 1 ≤ u) (b : ¬ u % 60 = 0) (htab : Tab w) :
    Calls Tryd.prog 20 #[.int .i64 (-(u : Int))] w fun e w' => e = .returned (.string ⟨([45] ++ dec ((u : Int) / 3600) ++ (58 :: d2 (u % 3600 / 60)) ++ (58 :: d2 (u % 60))).toArray⟩) ∧ Kept w w' := by
  have l1 : (dec ((u : Int) / 3600)).length ≤ 3 := dec_len3 (by omega)
  have l2 : ∀ k, (d2 k).length = 2 := d2_len
  have HT := Lib.hid htab; clear htab
  have a1 : ¬ (u : Int) % 3600 = 0 := by omega
  have b1 : ¬ (u : Int) % 60 = 0 := by omega
  clear b
  have c1 := Lib.hid (show ((u : Int) % 3600 / 60).toNat = u % 3600 / 60 by omega)
  have c2 := Lib.hid (show ((u : Int) % 60).toNat = u % 60 by omega)
  go_enter Tryd.func20, Tryd.ntmps20
  go_wp2_with fail
  refine (itoa_int _ _ (by omega) (by omega) HT.out).mono ?_
  rintro e w1 ⟨rfl, k1⟩
  go_wp2_with fail
  refine (twoDigits_any _ _ (by omega) (by omega)).mono ?_
  rintro e w2 ⟨rfl, rfl⟩
  rw [c1.out]
  go_wp2_with fail
  refine (twoDigits_any _ _ (by omega) (by omega)).mono ?_
  rintro e w2 ⟨rfl, rfl⟩
  rw [c2.out]
  go_wp2
  go_ret
  exact ⟨ret_str (by apply ByteArray.ext; simp [ByteArray.data_append]), k1⟩
theorem ttU_eq (u : Nat) : ttU u = dec ((u : Int) / 3600) ++ ttM u ++ ttS u := by
  unfold ttU dec; rw [show ((u : Int) / 3600).toNat = u / 3600 by omega]
theorem timeText_any (n : Int) (w : World) (h1 : -1000000 < n) (h2 : n < 1000000) (htab : Tab w) :
    Calls Tryd.prog 20 #[.int .i64 n] w fun e w' => e = .returned (.string ⟨(tt n).toArray⟩) ∧ Kept w w' := by
  by_cases hn : n < 0
  · obtain ⟨u, rfl⟩ : ∃ u : Nat, n = -(u : Int) := ⟨n.natAbs, by omega⟩
    rw [show tt (-(u : Int)) = [45] ++ ttU u by unfold tt; rw [if_pos hn]; simp, ttU_eq]
    unfold ttM ttS
    by_cases a : u % 3600 = 0
    · rw [if_pos a, if_pos (by omega), List.append_nil, List.append_nil]
      exact timeText_n0 u w (by omega) (by omega) a htab
    · by_cases b : u % 60 = 0
      · rw [if_neg a, if_pos b, List.append_nil, ← List.append_assoc]
        exact timeText_nm u w (by omega) (by omega) a b htab
      · rw [if_neg a, if_neg b, ← List.append_assoc, ← List.append_assoc]
        exact timeText_ns u w (by omega) (by omega) b htab
  · obtain ⟨u, rfl⟩ := Int.eq_ofNat_of_zero_le (show 0 ≤ n by omega)
    rw [show tt (u : Int) = ttU u by unfold tt; rw [if_neg hn]; simp, ttU_eq]
    unfold ttM ttS
    by_cases a : u % 3600 = 0
    · rw [if_pos a, if_pos (by omega), List.append_nil, List.append_nil]
      exact timeText_p0 u w (by omega) a htab
    · by_cases b : u % 60 = 0
      · rw [if_neg a, if_pos b, List.append_nil]
        exact timeText_pm u w (by omega) a b htab
      · rw [if_neg a, if_neg b]
        exact timeText_ps u w (by omega) b htab
end Go.Proofs.YtomnjdammfiadaaDoor
