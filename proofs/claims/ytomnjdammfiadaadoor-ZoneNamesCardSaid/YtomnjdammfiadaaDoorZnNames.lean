/- The law ZoneNames, walked. -/
import Derived.Test.YtomnjdammfiadaaDoorZnAwake
import Derived.Deep.QuietTactic
import Derived.BigQuiet
namespace Go.Proofs.YtomnjdammfiadaaDoor
open Go.ChangeShapes Go.WideShapes Go.ChangeAt Go.RowKit
open Zn
abbrev znV (l : List UInt8) : Value := .agg #[.string ⟨l.toArray⟩, .int .i64 0, .bool false, .string ⟨#[]⟩, .int .i64 0, .int .i64 0, .int .i64 0, .int .i64 0, .int .i64 0, .int .i64 0, .int .i64 0, .int .i64 0, .int .i64 0, .int .i64 0, .int .i64 0]
def zn (l : List UInt8) : Zo := ⟨l, 0, false, [], 0, ru0, ru0⟩
theorem wt_zn (l : List UInt8) : wt (zn l) = nt l ++ [48] := by
  simp only [wt, zn, Bool.false_eq_true, if_false]
  congr 1
  simp only [tt, ttU]
  rw [show (Int.natAbs (-0)) / 3600 = 0 from rfl, Lib.decDigits_one (by omega)]
  rfl
theorem wr_n (l : List UInt8) (w : World) (h : mayZ (zn l) = true) (htab : Tab w) : Calls Tryd.prog 10 #[znV l] w fun e w' => e = .returned (.tuple #[.string ⟨(nt l ++ [48]).toArray⟩, .int .i64 0]) ∧ Kept w w' := by
  rw [← wt_zn]; exact write_yes (zn l) w h htab
theorem wr_m (l : List UInt8) (w : World) (h : mayZ (zn l) = false) : Calls Tryd.prog 10 #[znV l] w fun e w' => e = .returned (.tuple #[.string ⟨#[]⟩, .int .i64 1]) ∧ Kept w w' := write_not (zn l) w h
theorem mz_n (l : List UInt8) (w : World) : Calls Tryd.prog 13 #[znV l] w fun e w' => e = .returned (.bool (mayZ (zn l))) ∧ Kept w w' := may_any (zn l) w
theorem zn_may {l : List UInt8} (h : mayZ (zn l) = true) : mayN l = true := by
  unfold mayZ at h; simp only [Bool.and_eq_true] at h; exact h.1.1
theorem all_take (p : UInt8 → Bool) (l : List UInt8) (k : Nat) (h : k < l.length) : (l.take (k + 1)).all p = ((l.take k).all p && p l[k]) := by
  rw [List.take_succ_eq_append_getElem h, List.all_append]; simp
def NmIn (l : List UInt8) (b i : Value) : Prop := ∃ k : Nat, k ≤ l.length ∧ i = .int .i64 k ∧ b = .bool ((l.take k).all ltr)
set_option maxRecDepth 100000 in
set_option maxHeartbeats 4000000 in
theorem walkNames (l : List UInt8) (w : World) (htab : Tab w) :
    Calls Tryd.prog 7 #[.string ⟨l.toArray⟩] w fun e w' => e = .returned (.bool true) ∧ Kept w w' := by
  have HT := Lib.hid htab; clear htab
  go_enter Tryd.func7, Tryd.ntmps7
  go_wp2_with fail
  refine (awake_yes _ HT.out).mono ?_
  rintro e w1 ⟨rfl, k1⟩
  by_cases hl : 20 < l.length
  · go_wp2
    go_ret
    exact ⟨rfl, k1⟩
  · have K1 := Lib.hid k1; clear k1
    go_wp2_with fail
    cases hm : mayZ (zn l) with
    | false =>
      refine (wr_m l _ hm).mono ?_
      rintro e w2 ⟨rfl, k2⟩
      have K2 := Lib.hid (K1.out.trans k2); clear K1 k2
      have HM := Lib.hid hm; clear hm
      go_wp2_with fail
      refine (mz_n l _).mono ?_
      rintro e w3 ⟨rfl, k3⟩
      rw [HM.out]
      go_wp2
      go_ret
      exact ⟨rfl, K2.out.trans k3⟩
    | true =>
      refine (wr_n l _ hm (K1.out.tab' HT.out)).mono ?_
      rintro e w2 ⟨rfl, k2⟩
      have K2 := Lib.hid (K1.out.trans k2); clear K1 k2
      have HM := Lib.hid hm; clear hm
      go_wp2_with fail
      refine (mz_n l _).mono ?_
      rintro e w3 ⟨rfl, k3⟩
      rw [HM.out]
      have K3 := Lib.hid (K2.out.trans k3); clear K2 k3
      go_wp2_with fail
      go_loop [6, 7] (fun b i => NmIn l b i) (fun _ i => l.length - (intOf i).toNat)
      case atStart => exact ⟨0, Nat.zero_le _, rfl, by simp⟩
      case round =>
        obtain ⟨k, hk, rfl, rfl⟩ := hrel
        by_cases hlt : k < l.length
        · have hs := Lib.hid (all_take ltr l k hlt)
          have hL := Lib.hid (show ltr l[k] = decide (65 ≤ ((ByteArray.mk l.toArray)[k]'hlt).toNat ∧ ((ByteArray.mk l.toArray)[k]'hlt).toNat ≤ 90 ∨ 97 ≤ ((ByteArray.mk l.toArray)[k]'hlt).toNat ∧ ((ByteArray.mk l.toArray)[k]'hlt).toNat ≤ 122) from rfl)
          generalize hB : (l.take k).all ltr = B at *
          have HB := Lib.hid hB; clear hB
          cases B with
          | false =>
            go_wp2
            all_goals
              go_round
              case rel => exact ⟨k + 1, by omega, by go_num, by rw [hs.out]; rfl⟩
              case measure => simp [intOf]; omega
          | true =>
            go_wp2
            all_goals
              go_round
              case rel => exact ⟨k + 1, by omega, by go_num, congrArg Value.bool (by rw [hs.out, hL.out, Bool.true_and, Bool.eq_iff_iff]; simp; omega)⟩
              case measure => simp [intOf]; omega
        · have hE := Lib.hid (show (l.take k).all ltr = l.all ltr by rw [List.take_of_length_le (by omega)])
          have hnt := zn_may HM.out
          have HN := Lib.hid hnt; clear hnt
          rw [hE.out]
          cases ha : l.all ltr with
          | true =>
            have hn := Lib.hid (show nt l = l by unfold nt; rw [if_pos ha])
            rw [hn.out]
            go_wp2
            go_ret
            exact ⟨ret_bool (by simp [ByteArray.toList_eq, ByteArray.data_append]), K3.out⟩
          | false =>
            have hn := Lib.hid (show nt l = 60 :: (l ++ [62]) by unfold nt; rw [if_neg (by rw [ha]; decide)])
            rw [hn.out]
            go_wp2
            go_ret
            exact ⟨ret_bool (by simp [ByteArray.toList_eq, ByteArray.data_append]), K3.out⟩
end Go.Proofs.YtomnjdammfiadaaDoor
