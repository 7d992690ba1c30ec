/- The law ZoneTimes, walked. -/
import Derived.Test.YtomnjdammfiadaaDoorZnAwake
import Derived.Test.YtomnjdammfiadaaDoorZnBack
import Derived.Test.YtomnjdammfiadaaDoorZnRefN
namespace Go.Proofs.YtomnjdammfiadaaDoor
open Go.ChangeShapes Go.WideShapes Go.ChangeAt Go.RowKit
open Zn
abbrev zU (n : Int) : Zo := ⟨[85, 84, 67], n, false, [], 0, ru0, ru0⟩
theorem may_U {n : Int} (h1 : -89999 ≤ n) (h2 : n ≤ 89999) : mayZ (zU n) = true := by
  simp [mayZ, offB, h1, h2, ru0]; decide
theorem wt_U (n : Int) : wt (zU n) = [85, 84, 67] ++ tt (-n) := by
  simp only [wt, zU, Bool.false_eq_true, if_false]; rfl
theorem ttU_hms (h m s : Int) (h0 : 0 ≤ h) (m0 : 0 ≤ m) (m1 : m ≤ 59) (s0 : 0 ≤ s) (s1 : s ≤ 59) :
    ttU (3600 * h + 60 * m + s).toNat = dec h ++ (if m + s = 0 then [] else 58 :: (dec (m / 10) ++ dec (m % 10))) ++ (if s = 0 then [] else 58 :: (dec (s / 10) ++ dec (s % 10))) := by
  unfold ttU ttM ttS
  rw [show (3600 * h + 60 * m + s).toNat / 3600 = h.toNat by omega, show (3600 * h + 60 * m + s).toNat % 3600 / 60 = m.toNat by omega, show (3600 * h + 60 * m + s).toNat % 60 = s.toNat by omega, d2_eq m m0 (by omega), d2_eq s s0 (by omega)]
  congr 1
  · congr 1
    by_cases e : m + s = 0
    · rw [if_pos e, if_pos (by omega)]
    · rw [if_neg e, if_neg (by omega)]
  · by_cases e : s = 0
    · rw [if_pos e, if_pos (by omega)]
    · rw [if_neg e, if_neg (by omega)]
theorem tt_pos {n : Int} (h : 0 ≤ n) : tt n = ttU n.toNat := by unfold tt; rw [if_neg (by omega), show n.natAbs = n.toNat by omega]
theorem tt_neg {n : Int} (h : 0 < n) : tt (-n) = 45 :: ttU n.toNat := by unfold tt; rw [if_pos (by omega), show (-n).natAbs = n.toNat by omega]
set_option maxRecDepth 100000 in
set_option maxHeartbeats 2000000 in
theorem times_F00 (w : World) (htab : Tab w) :
    Calls Tryd.prog 6 #[.int .i64 0, .int .i64 0, .int .i64 0, .bool false] w fun e w' => e = .returned (.bool true) ∧ Kept w w' := by
  have TX := Lib.hid (show wt (zU (0)) = [85, 84, 67] ++ (dec 0) by have := ttU_hms 0 0 0 (by omega) (by omega) (by omega) (by omega) (by omega); rw [if_pos (by omega), if_pos (by omega), List.append_nil, List.append_nil] at this; rw [show (3600 * 0 + 60 * 0 + 0 : Int) = 0 by omega] at this; rw [wt_U, show (-0 : Int) = 0 from rfl, tt_pos (by omega), this])
  have MY := Lib.hid (may_U (n := 0) (by omega) (by omega))
  have WL := Lib.hid (show ([85, 84, 67] ++ (dec 0)).length ≤ 100 by rw [← TX.out]; exact wt_len MY.out)
  have PR := Lib.hid (show prs ([85, 84, 67] ++ (dec 0)) = some (zU (0)) by rw [← TX.out]; exact prs_wt MY.out)
  have HW := Lib.hid (fun w (ht : Tab w) => write_yes (zU (0)) w MY.out ht)
  have HT := Lib.hid htab; clear htab
  have l1 : (dec 0).length ≤ 3 := dec_len3 (by omega)
  go_enter Tryd.func6, Tryd.ntmps6
  go_wp2_with fail
  refine (awake_yes _ HT.out).mono ?_
  rintro e w1 ⟨rfl, k1⟩
  have K1 := Lib.hid k1; clear k1
  go_wp2_with fail
  refine (rNumber_any _ _ (by omega) (by omega)).mono ?_
  rintro e wq0 ⟨rfl, rfl⟩
  go_wp2_with fail
  refine (HW.out _ (K1.out.tab' HT.out)).mono ?_
  rintro e w2 ⟨rfl, k2⟩
  have K2 := Lib.hid (K1.out.trans k2); clear K1 k2 HW
  rw [TX.out]
  go_wp2_with fail
  rw [show (ByteArray.mk #[85, 84, 67] ++ ByteArray.mk #[] ++ ByteArray.mk (dec 0).toArray) = ⟨([85, 84, 67] ++ (dec 0)).toArray⟩ by apply ByteArray.ext; simp [ByteArray.data_append]]
  refine (parse_any _ _ WL.out (K2.out.tab' HT.out)).mono ?_
  intro e w3 hp3
  rw [PR.out] at hp3
  obtain ⟨rfl, k3⟩ := hp3
  have K3 := Lib.hid (K2.out.trans k3); clear K2 k3
  go_wp2
  go_ret
  exact ⟨ret_bool (by simp), K3.out.alloc _⟩
set_option maxRecDepth 100000 in
set_option maxHeartbeats 2000000 in
theorem times_Fp0 (h : Int) (w : World) (h0 : 0 ≤ h) (h1 : h ≤ 24) (hp : 0 < h) (htab : Tab w) :
    Calls Tryd.prog 6 #[.int .i64 h, .int .i64 0, .int .i64 0, .bool false] w fun e w' => e = .returned (.bool true) ∧ Kept w w' := by
  have TX := Lib.hid (show wt (zU (3600 * h)) = [85, 84, 67] ++ ([45] ++ dec h) by have := ttU_hms h 0 0 (by omega) (by omega) (by omega) (by omega) (by omega); rw [if_pos (by omega), if_pos (by omega), List.append_nil, List.append_nil] at this; rw [show (3600 * h + 60 * 0 + 0 : Int) = 3600 * h by omega] at this; rw [wt_U, tt_neg (n := 3600 * h) (by omega), this]; simp)
  have MY := Lib.hid (may_U (n := 3600 * h) (by omega) (by omega))
  have WL := Lib.hid (show ([85, 84, 67] ++ ([45] ++ dec h)).length ≤ 100 by rw [← TX.out]; exact wt_len MY.out)
  have PR := Lib.hid (show prs ([85, 84, 67] ++ ([45] ++ dec h)) = some (zU (3600 * h)) by rw [← TX.out]; exact prs_wt MY.out)
  have HW := Lib.hid (fun w (ht : Tab w) => write_yes (zU (3600 * h)) w MY.out ht)
  have HT := Lib.hid htab; clear htab
  have l1 : (dec h).length ≤ 3 := dec_len3 (by omega)
  go_enter Tryd.func6, Tryd.ntmps6
  go_wp2_with fail
  refine (awake_yes _ HT.out).mono ?_
  rintro e w1 ⟨rfl, k1⟩
  have K1 := Lib.hid k1; clear k1
  go_wp2_with fail
  refine (rNumber_any _ _ (by omega) (by omega)).mono ?_
  rintro e wq0 ⟨rfl, rfl⟩
  go_wp2_with fail
  refine (HW.out _ (K1.out.tab' HT.out)).mono ?_
  rintro e w2 ⟨rfl, k2⟩
  have K2 := Lib.hid (K1.out.trans k2); clear K1 k2 HW
  rw [TX.out]
  go_wp2_with fail
  rw [show (ByteArray.mk #[85, 84, 67] ++ ByteArray.mk #[45] ++ ByteArray.mk (dec h).toArray) = ⟨([85, 84, 67] ++ ([45] ++ dec h)).toArray⟩ by apply ByteArray.ext; simp [ByteArray.data_append]]
  refine (parse_any _ _ WL.out (K2.out.tab' HT.out)).mono ?_
  intro e w3 hp3
  rw [PR.out] at hp3
  obtain ⟨rfl, k3⟩ := hp3
  have K3 := Lib.hid (K2.out.trans k3); clear K2 k3
  go_wp2
  go_ret
  exact ⟨ret_bool (by simp), K3.out.alloc _⟩
set_option maxRecDepth 100000 in
set_option maxHeartbeats 2000000 in
theorem times_Fpm (h m : Int) (w : World) (h0 : 0 ≤ h) (h1 : h ≤ 24) (m0 : 0 ≤ m) (m1 : m ≤ 59) (e1 : 0 < m) (htab : Tab w) :
    Calls Tryd.prog 6 #[.int .i64 h, .int .i64 m, .int .i64 0, .bool false] w fun e w' => e = .returned (.bool true) ∧ Kept w w' := by
  have TX := Lib.hid (show wt (zU (3600 * h + 60 * m)) = [85, 84, 67] ++ ([45] ++ dec h ++ (58 :: (dec (m / 10) ++ dec (m % 10)))) by have := ttU_hms h m 0 (by omega) (by omega) (by omega) (by omega) (by omega); rw [if_neg (by omega), if_pos (by omega), List.append_nil] at this; rw [show (3600 * h + 60 * m + 0 : Int) = 3600 * h + 60 * m by omega] at this; rw [wt_U, tt_neg (n := 3600 * h + 60 * m) (by omega), this]; simp)
  have MY := Lib.hid (may_U (n := 3600 * h + 60 * m) (by omega) (by omega))
  have WL := Lib.hid (show ([85, 84, 67] ++ ([45] ++ dec h ++ (58 :: (dec (m / 10) ++ dec (m % 10))))).length ≤ 100 by rw [← TX.out]; exact wt_len MY.out)
  have PR := Lib.hid (show prs ([85, 84, 67] ++ ([45] ++ dec h ++ (58 :: (dec (m / 10) ++ dec (m % 10))))) = some (zU (3600 * h + 60 * m)) by rw [← TX.out]; exact prs_wt MY.out)
  have HW := Lib.hid (fun w (ht : Tab w) => write_yes (zU (3600 * h + 60 * m)) w MY.out ht)
  have HT := Lib.hid htab; clear htab
  have l1 : (dec h).length ≤ 3 := dec_len3 (by omega)
  have l2 : (dec (m / 10)).length ≤ 3 := dec_len3 (by omega)
  have l3 : (dec (m % 10)).length ≤ 3 := dec_len3 (by omega)
  go_enter Tryd.func6, Tryd.ntmps6
  go_wp2_with fail
  refine (awake_yes _ HT.out).mono ?_
  rintro e w1 ⟨rfl, k1⟩
  have K1 := Lib.hid k1; clear k1
  go_wp2_with fail
  refine (rNumber_any _ _ (by omega) (by omega)).mono ?_
  rintro e wq0 ⟨rfl, rfl⟩
  go_wp2_with fail
  refine (rNumber_any _ _ (by omega) (by omega)).mono ?_
  rintro e wq1 ⟨rfl, rfl⟩
  go_wp2_with fail
  refine (rNumber_any _ _ (by omega) (by omega)).mono ?_
  rintro e wq2 ⟨rfl, rfl⟩
  go_wp2_with fail
  refine (HW.out _ (K1.out.tab' HT.out)).mono ?_
  rintro e w2 ⟨rfl, k2⟩
  have K2 := Lib.hid (K1.out.trans k2); clear K1 k2 HW
  rw [TX.out]
  go_wp2_with fail
  rw [show (ByteArray.mk #[85, 84, 67] ++ ByteArray.mk #[45] ++ ByteArray.mk (dec h).toArray ++ ByteArray.mk #[58] ++ ByteArray.mk (dec (m / 10)).toArray ++ ByteArray.mk (dec (m % 10)).toArray) = ⟨([85, 84, 67] ++ ([45] ++ dec h ++ (58 :: (dec (m / 10) ++ dec (m % 10))))).toArray⟩ by apply ByteArray.ext; simp [ByteArray.data_append]]
  refine (parse_any _ _ WL.out (K2.out.tab' HT.out)).mono ?_
  intro e w3 hp3
  rw [PR.out] at hp3
  obtain ⟨rfl, k3⟩ := hp3
  have K3 := Lib.hid (K2.out.trans k3); clear K2 k3
  go_wp2
  go_ret
  exact ⟨ret_bool (by simp), K3.out.alloc _⟩
set_option maxRecDepth 100000 in
set_option maxHeartbeats 2000000 in
theorem times_Fps (h m s : Int) (w : World) (h0 : 0 ≤ h) (h1 : h ≤ 24) (m0 : 0 ≤ m) (m1 : m ≤ 59) (s0 : 0 ≤ s) (s1 : s ≤ 59) (e2 : 0 < s) (htab : Tab w) :
    Calls Tryd.prog 6 #[.int .i64 h, .int .i64 m, .int .i64 s, .bool false] w fun e w' => e = .returned (.bool true) ∧ Kept w w' := by
  have TX := Lib.hid (show wt (zU (3600 * h + 60 * m + s)) = [85, 84, 67] ++ ([45] ++ dec h ++ (58 :: (dec (m / 10) ++ dec (m % 10))) ++ (58 :: (dec (s / 10) ++ dec (s % 10)))) by have := ttU_hms h m s (by omega) (by omega) (by omega) (by omega) (by omega); rw [if_neg (by omega), if_neg (by omega)] at this; rw [show (3600 * h + 60 * m + s : Int) = 3600 * h + 60 * m + s by omega] at this; rw [wt_U, tt_neg (n := 3600 * h + 60 * m + s) (by omega), this]; simp)
  have MY := Lib.hid (may_U (n := 3600 * h + 60 * m + s) (by omega) (by omega))
  have WL := Lib.hid (show ([85, 84, 67] ++ ([45] ++ dec h ++ (58 :: (dec (m / 10) ++ dec (m % 10))) ++ (58 :: (dec (s / 10) ++ dec (s % 10))))).length ≤ 100 by rw [← TX.out]; exact wt_len MY.out)
  have PR := Lib.hid (show prs ([85, 84, 67] ++ ([45] ++ dec h ++ (58 :: (dec (m / 10) ++ dec (m % 10))) ++ (58 :: (dec (s / 10) ++ dec (s % 10))))) = some (zU (3600 * h + 60 * m + s)) by rw [← TX.out]; exact prs_wt MY.out)
  have HW := Lib.hid (fun w (ht : Tab w) => write_yes (zU (3600 * h + 60 * m + s)) w MY.out ht)
  have HT := Lib.hid htab; clear htab
  have l1 : (dec h).length ≤ 3 := dec_len3 (by omega)
  have l2 : (dec (m / 10)).length ≤ 3 := dec_len3 (by omega)
  have l3 : (dec (m % 10)).length ≤ 3 := dec_len3 (by omega)
  have l4 : (dec (s / 10)).length ≤ 3 := dec_len3 (by omega)
  have l5 : (dec (s % 10)).length ≤ 3 := dec_len3 (by omega)
  go_enter Tryd.func6, Tryd.ntmps6
  go_wp2_with fail
  refine (awake_yes _ HT.out).mono ?_
  rintro e w1 ⟨rfl, k1⟩
  have K1 := Lib.hid k1; clear k1
  go_wp2_with fail
  refine (rNumber_any _ _ (by omega) (by omega)).mono ?_
  rintro e wq0 ⟨rfl, rfl⟩
  go_wp2_with fail
  refine (rNumber_any _ _ (by omega) (by omega)).mono ?_
  rintro e wq1 ⟨rfl, rfl⟩
  go_wp2_with fail
  refine (rNumber_any _ _ (by omega) (by omega)).mono ?_
  rintro e wq2 ⟨rfl, rfl⟩
  go_wp2_with fail
  refine (rNumber_any _ _ (by omega) (by omega)).mono ?_
  rintro e wq3 ⟨rfl, rfl⟩
  go_wp2_with fail
  refine (rNumber_any _ _ (by omega) (by omega)).mono ?_
  rintro e wq4 ⟨rfl, rfl⟩
  go_wp2_with fail
  refine (HW.out _ (K1.out.tab' HT.out)).mono ?_
  rintro e w2 ⟨rfl, k2⟩
  have K2 := Lib.hid (K1.out.trans k2); clear K1 k2 HW
  rw [TX.out]
  go_wp2_with fail
  rw [show (ByteArray.mk #[85, 84, 67] ++ ByteArray.mk #[45] ++ ByteArray.mk (dec h).toArray ++ ByteArray.mk #[58] ++ ByteArray.mk (dec (m / 10)).toArray ++ ByteArray.mk (dec (m % 10)).toArray ++ ByteArray.mk #[58] ++ ByteArray.mk (dec (s / 10)).toArray ++ ByteArray.mk (dec (s % 10)).toArray) = ⟨([85, 84, 67] ++ ([45] ++ dec h ++ (58 :: (dec (m / 10) ++ dec (m % 10))) ++ (58 :: (dec (s / 10) ++ dec (s % 10))))).toArray⟩ by apply ByteArray.ext; simp [ByteArray.data_append]]
  refine (parse_any _ _ WL.out (K2.out.tab' HT.out)).mono ?_
  intro e w3 hp3
  rw [PR.out] at hp3
  obtain ⟨rfl, k3⟩ := hp3
  have K3 := Lib.hid (K2.out.trans k3); clear K2 k3
  go_wp2
  go_ret
  exact ⟨ret_bool (by simp), K3.out.alloc _⟩
set_option maxRecDepth 100000 in
set_option maxHeartbeats 2000000 in
theorem times_T00 (w : World) (htab : Tab w) :
    Calls Tryd.prog 6 #[.int .i64 0, .int .i64 0, .int .i64 0, .bool true] w fun e w' => e = .returned (.bool true) ∧ Kept w w' := by
  have TX := Lib.hid (show wt (zU (0)) = [85, 84, 67] ++ (dec 0) by have := ttU_hms 0 0 0 (by omega) (by omega) (by omega) (by omega) (by omega); rw [if_pos (by omega), if_pos (by omega), List.append_nil, List.append_nil] at this; rw [show (3600 * 0 + 60 * 0 + 0 : Int) = 0 by omega] at this; rw [wt_U, show (-0 : Int) = 0 from rfl, tt_pos (by omega), this])
  have MY := Lib.hid (may_U (n := 0) (by omega) (by omega))
  have WL := Lib.hid (show ([85, 84, 67] ++ (dec 0)).length ≤ 100 by rw [← TX.out]; exact wt_len MY.out)
  have PR := Lib.hid (show prs ([85, 84, 67] ++ (dec 0)) = some (zU (0)) by rw [← TX.out]; exact prs_wt MY.out)
  have HW := Lib.hid (fun w (ht : Tab w) => write_yes (zU (0)) w MY.out ht)
  have HT := Lib.hid htab; clear htab
  have l1 : (dec 0).length ≤ 3 := dec_len3 (by omega)
  go_enter Tryd.func6, Tryd.ntmps6
  go_wp2_with fail
  refine (awake_yes _ HT.out).mono ?_
  rintro e w1 ⟨rfl, k1⟩
  have K1 := Lib.hid k1; clear k1
  go_wp2_with fail
  refine (rNumber_any _ _ (by omega) (by omega)).mono ?_
  rintro e wq0 ⟨rfl, rfl⟩
  go_wp2_with fail
  refine (HW.out _ (K1.out.tab' HT.out)).mono ?_
  rintro e w2 ⟨rfl, k2⟩
  have K2 := Lib.hid (K1.out.trans k2); clear K1 k2 HW
  rw [TX.out]
  go_wp2_with fail
  rw [show (ByteArray.mk #[85, 84, 67] ++ ByteArray.mk #[] ++ ByteArray.mk (dec 0).toArray) = ⟨([85, 84, 67] ++ (dec 0)).toArray⟩ by apply ByteArray.ext; simp [ByteArray.data_append]]
  refine (parse_any _ _ WL.out (K2.out.tab' HT.out)).mono ?_
  intro e w3 hp3
  rw [PR.out] at hp3
  obtain ⟨rfl, k3⟩ := hp3
  have K3 := Lib.hid (K2.out.trans k3); clear K2 k3
  go_wp2
  go_ret
  exact ⟨ret_bool (by simp), K3.out.alloc _⟩
set_option maxRecDepth 100000 in
set_option maxHeartbeats 2000000 in
theorem times_Tp0 (h : Int) (w : World) (h0 : 0 ≤ h) (h1 : h ≤ 24) (hp : 0 < h) (htab : Tab w) :
    Calls Tryd.prog 6 #[.int .i64 h, .int .i64 0, .int .i64 0, .bool true] w fun e w' => e = .returned (.bool true) ∧ Kept w w' := by
  have TX := Lib.hid (show wt (zU (-(3600 * h))) = [85, 84, 67] ++ (dec h) by have := ttU_hms h 0 0 (by omega) (by omega) (by omega) (by omega) (by omega); rw [if_pos (by omega), if_pos (by omega), List.append_nil, List.append_nil] at this; rw [show (3600 * h + 60 * 0 + 0 : Int) = 3600 * h by omega] at this; rw [wt_U, show -(-(3600 * h)) = 3600 * h by omega, tt_pos (by omega), this])
  have MY := Lib.hid (may_U (n := -(3600 * h)) (by omega) (by omega))
  have WL := Lib.hid (show ([85, 84, 67] ++ (dec h)).length ≤ 100 by rw [← TX.out]; exact wt_len MY.out)
  have PR := Lib.hid (show prs ([85, 84, 67] ++ (dec h)) = some (zU (-(3600 * h))) by rw [← TX.out]; exact prs_wt MY.out)
  have HW := Lib.hid (fun w (ht : Tab w) => write_yes (zU (-(3600 * h))) w MY.out ht)
  have HT := Lib.hid htab; clear htab
  have l1 : (dec h).length ≤ 3 := dec_len3 (by omega)
  go_enter Tryd.func6, Tryd.ntmps6
  go_wp2_with fail
  refine (awake_yes _ HT.out).mono ?_
  rintro e w1 ⟨rfl, k1⟩
  have K1 := Lib.hid k1; clear k1
  go_wp2_with fail
  refine (rNumber_any _ _ (by omega) (by omega)).mono ?_
  rintro e wq0 ⟨rfl, rfl⟩
  go_wp2_with fail
  refine (HW.out _ (K1.out.tab' HT.out)).mono ?_
  rintro e w2 ⟨rfl, k2⟩
  have K2 := Lib.hid (K1.out.trans k2); clear K1 k2 HW
  rw [TX.out]
  go_wp2_with fail
  rw [show (ByteArray.mk #[85, 84, 67] ++ ByteArray.mk #[] ++ ByteArray.mk (dec h).toArray) = ⟨([85, 84, 67] ++ (dec h)).toArray⟩ by apply ByteArray.ext; simp [ByteArray.data_append]]
  refine (parse_any _ _ WL.out (K2.out.tab' HT.out)).mono ?_
  intro e w3 hp3
  rw [PR.out] at hp3
  obtain ⟨rfl, k3⟩ := hp3
  have K3 := Lib.hid (K2.out.trans k3); clear K2 k3
  go_wp2
  go_ret
  exact ⟨ret_bool (by simp), K3.out.alloc _⟩
set_option maxRecDepth 100000 in
set_option maxHeartbeats 2000000 in
theorem times_Tpm (h m : Int) (w : World) (h0 : 0 ≤ h) (h1 : h ≤ 24) (m0 : 0 ≤ m) (m1 : m ≤ 59) (e1 : 0 < m) (htab : Tab w) :
    Calls Tryd.prog 6 #[.int .i64 h, .int .i64 m, .int .i64 0, .bool true] w fun e w' => e = .returned (.bool true) ∧ Kept w w' := by
  have TX := Lib.hid (show wt (zU (-(3600 * h + 60 * m))) = [85, 84, 67] ++ (dec h ++ (58 :: (dec (m / 10) ++ dec (m % 10)))) by have := ttU_hms h m 0 (by omega) (by omega) (by omega) (by omega) (by omega); rw [if_neg (by omega), if_pos (by omega), List.append_nil] at this; rw [show (3600 * h + 60 * m + 0 : Int) = 3600 * h + 60 * m by omega] at this; rw [wt_U, show -(-(3600 * h + 60 * m)) = 3600 * h + 60 * m by omega, tt_pos (by omega), this])
  have MY := Lib.hid (may_U (n := -(3600 * h + 60 * m)) (by omega) (by omega))
  have WL := Lib.hid (show ([85, 84, 67] ++ (dec h ++ (58 :: (dec (m / 10) ++ dec (m % 10))))).length ≤ 100 by rw [← TX.out]; exact wt_len MY.out)
  have PR := Lib.hid (show prs ([85, 84, 67] ++ (dec h ++ (58 :: (dec (m / 10) ++ dec (m % 10))))) = some (zU (-(3600 * h + 60 * m))) by rw [← TX.out]; exact prs_wt MY.out)
  have HW := Lib.hid (fun w (ht : Tab w) => write_yes (zU (-(3600 * h + 60 * m))) w MY.out ht)
  have HT := Lib.hid htab; clear htab
  have l1 : (dec h).length ≤ 3 := dec_len3 (by omega)
  have l2 : (dec (m / 10)).length ≤ 3 := dec_len3 (by omega)
  have l3 : (dec (m % 10)).length ≤ 3 := dec_len3 (by omega)
  go_enter Tryd.func6, Tryd.ntmps6
  go_wp2_with fail
  refine (awake_yes _ HT.out).mono ?_
  rintro e w1 ⟨rfl, k1⟩
  have K1 := Lib.hid k1; clear k1
  go_wp2_with fail
  refine (rNumber_any _ _ (by omega) (by omega)).mono ?_
  rintro e wq0 ⟨rfl, rfl⟩
  go_wp2_with fail
  refine (rNumber_any _ _ (by omega) (by omega)).mono ?_
  rintro e wq1 ⟨rfl, rfl⟩
  go_wp2_with fail
  refine (rNumber_any _ _ (by omega) (by omega)).mono ?_
  rintro e wq2 ⟨rfl, rfl⟩
  go_wp2_with fail
  refine (HW.out _ (K1.out.tab' HT.out)).mono ?_
  rintro e w2 ⟨rfl, k2⟩
  have K2 := Lib.hid (K1.out.trans k2); clear K1 k2 HW
  rw [TX.out]
  go_wp2_with fail
  rw [show (ByteArray.mk #[85, 84, 67] ++ ByteArray.mk #[] ++ ByteArray.mk (dec h).toArray ++ ByteArray.mk #[58] ++ ByteArray.mk (dec (m / 10)).toArray ++ ByteArray.mk (dec (m % 10)).toArray) = ⟨([85, 84, 67] ++ (dec h ++ (58 :: (dec (m / 10) ++ dec (m % 10))))).toArray⟩ by apply ByteArray.ext; simp [ByteArray.data_append]]
  refine (parse_any _ _ WL.out (K2.out.tab' HT.out)).mono ?_
  intro e w3 hp3
  rw [PR.out] at hp3
  obtain ⟨rfl, k3⟩ := hp3
  have K3 := Lib.hid (K2.out.trans k3); clear K2 k3
  go_wp2
  go_ret
  exact ⟨ret_bool (by simp), K3.out.alloc _⟩
set_option maxRecDepth 100000 in
set_option maxHeartbeats 2000000 in
theorem times_Tps (h m s : Int) (w : World) (h0 : 0 ≤ h) (h1 : h ≤ 24) (m0 : 0 ≤ m) (m1 : m ≤ 59) (s0 : 0 ≤ s) (s1 : s ≤ 59) (e2 : 0 < s) (htab : Tab w) :
    Calls Tryd.prog 6 #[.int .i64 h, .int .i64 m, .int .i64 s, .bool true] w fun e w' => e = .returned (.bool true) ∧ Kept w w' := by
  have TX := Lib.hid (show wt (zU (-(3600 * h + 60 * m + s))) = [85, 84, 67] ++ (dec h ++ (58 :: (dec (m / 10) ++ dec (m % 10))) ++ (58 :: (dec (s / 10) ++ dec (s % 10)))) by have := ttU_hms h m s (by omega) (by omega) (by omega) (by omega) (by omega); rw [if_neg (by omega), if_neg (by omega)] at this; rw [show (3600 * h + 60 * m + s : Int) = 3600 * h + 60 * m + s by omega] at this; rw [wt_U, show -(-(3600 * h + 60 * m + s)) = 3600 * h + 60 * m + s by omega, tt_pos (by omega), this])
  have MY := Lib.hid (may_U (n := -(3600 * h + 60 * m + s)) (by omega) (by omega))
  have WL := Lib.hid (show ([85, 84, 67] ++ (dec h ++ (58 :: (dec (m / 10) ++ dec (m % 10))) ++ (58 :: (dec (s / 10) ++ dec (s % 10))))).length ≤ 100 by rw [← TX.out]; exact wt_len MY.out)
  have PR := Lib.hid (show prs ([85, 84, 67] ++ (dec h ++ (58 :: (dec (m / 10) ++ dec (m % 10))) ++ (58 :: (dec (s / 10) ++ dec (s % 10))))) = some (zU (-(3600 * h + 60 * m + s))) by rw [← TX.out]; exact prs_wt MY.out)
  have HW := Lib.hid (fun w (ht : Tab w) => write_yes (zU (-(3600 * h + 60 * m + s))) w MY.out ht)
  have HT := Lib.hid htab; clear htab
  have l1 : (dec h).length ≤ 3 := dec_len3 (by omega)
  have l2 : (dec (m / 10)).length ≤ 3 := dec_len3 (by omega)
  have l3 : (dec (m % 10)).length ≤ 3 := dec_len3 (by omega)
  have l4 : (dec (s / 10)).length ≤ 3 := dec_len3 (by omega)
  have l5 : (dec (s % 10)).length ≤ 3 := dec_len3 (by omega)
  go_enter Tryd.func6, Tryd.ntmps6
  go_wp2_with fail
  refine (awake_yes _ HT.out).mono ?_
  rintro e w1 ⟨rfl, k1⟩
  have K1 := Lib.hid k1; clear k1
  go_wp2_with fail
  refine (rNumber_any _ _ (by omega) (by omega)).mono ?_
  rintro e wq0 ⟨rfl, rfl⟩
  go_wp2_with fail
  refine (rNumber_any _ _ (by omega) (by omega)).mono ?_
  rintro e wq1 ⟨rfl, rfl⟩
  go_wp2_with fail
  refine (rNumber_any _ _ (by omega) (by omega)).mono ?_
  rintro e wq2 ⟨rfl, rfl⟩
  go_wp2_with fail
  refine (rNumber_any _ _ (by omega) (by omega)).mono ?_
  rintro e wq3 ⟨rfl, rfl⟩
  go_wp2_with fail
  refine (rNumber_any _ _ (by omega) (by omega)).mono ?_
  rintro e wq4 ⟨rfl, rfl⟩
  go_wp2_with fail
  refine (HW.out _ (K1.out.tab' HT.out)).mono ?_
  rintro e w2 ⟨rfl, k2⟩
  have K2 := Lib.hid (K1.out.trans k2); clear K1 k2 HW
  rw [TX.out]
  go_wp2_with fail
  rw [show (ByteArray.mk #[85, 84, 67] ++ ByteArray.mk #[] ++ ByteArray.mk (dec h).toArray ++ ByteArray.mk #[58] ++ ByteArray.mk (dec (m / 10)).toArray ++ ByteArray.mk (dec (m % 10)).toArray ++ ByteArray.mk #[58] ++ ByteArray.mk (dec (s / 10)).toArray ++ ByteArray.mk (dec (s % 10)).toArray) = ⟨([85, 84, 67] ++ (dec h ++ (58 :: (dec (m / 10) ++ dec (m % 10))) ++ (58 :: (dec (s / 10) ++ dec (s % 10))))).toArray⟩ by apply ByteArray.ext; simp [ByteArray.data_append]]
  refine (parse_any _ _ WL.out (K2.out.tab' HT.out)).mono ?_
  intro e w3 hp3
  rw [PR.out] at hp3
  obtain ⟨rfl, k3⟩ := hp3
  have K3 := Lib.hid (K2.out.trans k3); clear K2 k3
  go_wp2
  go_ret
  exact ⟨ret_bool (by simp), K3.out.alloc _⟩
set_option maxHeartbeats 1000000 in
theorem times_out (h m s : Int) (b : Bool) (w : World) (hh : h < 0 ∨ (0 ≤ h ∧ 24 < h) ∨ (0 ≤ h ∧ h ≤ 24 ∧ m < 0) ∨ (0 ≤ h ∧ h ≤ 24 ∧ 0 ≤ m ∧ 59 < m) ∨ (0 ≤ h ∧ h ≤ 24 ∧ 0 ≤ m ∧ m ≤ 59 ∧ s < 0) ∨ (0 ≤ h ∧ h ≤ 24 ∧ 0 ≤ m ∧ m ≤ 59 ∧ 0 ≤ s ∧ 59 < s)) (htab : Tab w) :
    Calls Tryd.prog 6 #[.int .i64 h, .int .i64 m, .int .i64 s, .bool b] w fun e w' => e = .returned (.bool true) ∧ Kept w w' := by
  have HT := Lib.hid htab; clear htab
  rcases hh with h1 | ⟨h1, h2⟩ | ⟨h1, h2, h3⟩ | ⟨h1, h2, h3, h4⟩ | ⟨h1, h2, h3, h4, h5⟩ | ⟨h1, h2, h3, h4, h5, h6⟩
  all_goals
    go_enter Tryd.func6, Tryd.ntmps6
    go_wp2_with fail
    refine (awake_yes _ HT.out).mono ?_
    rintro e w1 ⟨rfl, k1⟩
    go_wp2
    go_ret
    exact ⟨rfl, k1⟩
theorem walkTimes (h m s : Int) (b : Bool) (w : World) (_ : -9223372036854775808 ≤ h) (_ : h ≤ 9223372036854775807) (_ : -9223372036854775808 ≤ m) (_ : m ≤ 9223372036854775807) (_ : -9223372036854775808 ≤ s) (_ : s ≤ 9223372036854775807) (htab : Tab w) :
    Calls Tryd.prog 6 #[.int .i64 h, .int .i64 m, .int .i64 s, .bool b] w fun e w' => e = .returned (.bool true) ∧ Kept w w' := by
  by_cases hin : 0 ≤ h ∧ h ≤ 24 ∧ 0 ≤ m ∧ m ≤ 59 ∧ 0 ≤ s ∧ s ≤ 59
  · obtain ⟨h0, h1, m0, m1, s0, s1⟩ := hin
    by_cases e2 : 0 < s
    · cases b with
      | false => exact times_Fps h m s w h0 h1 m0 m1 s0 s1 e2 htab
      | true => exact times_Tps h m s w h0 h1 m0 m1 s0 s1 e2 htab
    · obtain rfl : s = 0 := by omega
      by_cases e1 : 0 < m
      · cases b with
        | false => exact times_Fpm h m w h0 h1 m0 m1 e1 htab
        | true => exact times_Tpm h m w h0 h1 m0 m1 e1 htab
      · obtain rfl : m = 0 := by omega
        by_cases e0 : 0 < h
        · cases b with
          | false => exact times_Fp0 h w h0 h1 e0 htab
          | true => exact times_Tp0 h w h0 h1 e0 htab
        · obtain rfl : h = 0 := by omega
          cases b with
          | false => exact times_F00 w htab
          | true => exact times_T00 w htab
  · exact times_out h m s b w (by omega) htab
end Go.Proofs.YtomnjdammfiadaaDoor
