/- Contracts of the document's answer for zones: signs, names, rules, numbers. -/
import Derived.Test.YtomnjdammfiadaaDoorZnWriteN
namespace Go.Proofs.YtomnjdammfiadaaDoor
open Go.ChangeShapes Go.WideShapes Go.ChangeAt Go.RowKit
open Zn
theorem rletter_any (c : UInt8) (w : World) :
    Calls Tryd.prog 40 #[.int .u8 c.toNat] w fun e w' => e = .returned (.bool (ltr c)) ∧ w = w' := by
  go_enter Tryd.func40, Tryd.ntmps40
  go_wp2
  all_goals (go_ret; refine ⟨ret_bool ?_, rfl⟩; simp only [ltr]; first | (simp [*]; done) | (simp; omega) | (rw [Bool.eq_iff_iff]; simp only [Bool.or_eq_true, decide_eq_true_eq]; omega))
theorem rsign_any (c : UInt8) (w : World) :
    Calls Tryd.prog 42 #[.int .u8 c.toNat] w fun e w' => e = .returned (.bool (nmb c)) ∧ w = w' := by
  have hn := Lib.hid (show nmb c = (ltr c || decide (48 ≤ c.toNat ∧ c.toNat ≤ 57 ∨ c.toNat = 43 ∨ c.toNat = 45)) by
    rw [Bool.eq_iff_iff]; simp only [nmb, ltr, Bool.or_eq_true, decide_eq_true_eq]; omega)
  go_enter Tryd.func42, Tryd.ntmps42
  go_wp2_with fail
  refine (rletter_any c _).mono ?_
  rintro e w1 ⟨rfl, rfl⟩
  cases hl : ltr c with
  | true =>
    go_wp2
    go_ret
    exact ⟨ret_bool (by rw [hn.out, hl]; rfl), rfl⟩
  | false =>
    have HL := Lib.hid hl; clear hl
    go_wp2
    all_goals
      go_ret
      refine ⟨ret_bool ?_, rfl⟩
      rw [hn.out, HL.out, Bool.false_or, Bool.eq_iff_iff]
      simp
      omega
def RnIn (p : UInt8 → Bool) (l : List UInt8) (i : Value) : Prop := ∃ k : Nat, k ≤ l.length ∧ i = .int .i64 k ∧ l.all p = (l.drop k).all p
theorem all_drop (p : UInt8 → Bool) (l : List UInt8) (k : Nat) (h : k < l.length) : (l.drop k).all p = (p l[k] && (l.drop (k + 1)).all p) := by
  rw [List.drop_eq_getElem_cons h, List.all_cons]
set_option maxHeartbeats 1000000 in
theorem rName_any (l : List UInt8) (w : World) (hl : l.length ≤ 1000000000) :
    Calls Tryd.prog 25 #[.string ⟨l.toArray⟩] w fun e w' => e = .returned (.bool (mayN l)) ∧ w = w' := by
  have hm := Lib.hid (show mayN l = (decide (3 ≤ l.length ∧ l.length ≤ 10) && l.all nmb) from rfl)
  go_enter Tryd.func25, Tryd.ntmps25
  go_wp2_with fail
  go_loop [3] (fun i => RnIn nmb l i) (fun i => l.length - (intOf i).toNat)
  case atStart => exact ⟨0, Nat.zero_le _, rfl, rfl⟩
  case round =>
    obtain ⟨k, hk, rfl, hr⟩ := hrel
    have HR := Lib.hid hr; clear hr
    by_cases hlt : k < l.length
    · have hs := Lib.hid (all_drop nmb l k hlt)
      go_wp2_with fail
      rw [at_list l k hlt]
      refine (rsign_any _ _).mono ?_
      rintro e w1 ⟨rfl, rfl⟩
      cases hp : nmb l[k] with
      | true =>
        have hq := Lib.hid (show l.all nmb = (l.drop (k + 1)).all nmb by rw [HR.out, hs.out, hp, Bool.true_and]); clear hp hs
        go_wp2
        go_round
        case rel => exact ⟨k + 1, by omega, by go_num, hq.out⟩
        case measure => simp [intOf]; omega
      | false =>
        have hq := Lib.hid (show l.all nmb = false by rw [HR.out, hs.out, hp, Bool.false_and]); clear hp hs
        go_wp2
        go_ret
        exact ⟨ret_bool (by rw [hm.out, hq.out, Bool.and_false]), rfl⟩
    · have hq := Lib.hid (show l.all nmb = true by rw [HR.out, List.drop_of_length_le (by omega)]; rfl)
      go_wp2
      all_goals
        go_ret
        refine ⟨ret_bool ?_, rfl⟩
        rw [hm.out, hq.out, Bool.and_true]
        first | (simp; omega) | (rw [Bool.eq_iff_iff]; simp; omega)
set_option maxHeartbeats 1000000 in
theorem rname_any (l : List UInt8) (w : World) (hl : l.length ≤ 1000000) :
    Calls Tryd.prog 22 #[.string ⟨l.toArray⟩] w fun e w' => e = .returned (.string ⟨(nt l).toArray⟩) ∧ w = w' := by
  go_enter Tryd.func22, Tryd.ntmps22
  go_wp2_with fail
  go_loop [3] (fun i => RnIn ltr l i) (fun i => l.length - (intOf i).toNat)
  case atStart => exact ⟨0, Nat.zero_le _, rfl, rfl⟩
  case round =>
    obtain ⟨k, hk, rfl, hr⟩ := hrel
    have HR := Lib.hid hr; clear hr
    by_cases hlt : k < l.length
    · have hs := Lib.hid (all_drop ltr l k hlt)
      go_wp2_with fail
      rw [at_list l k hlt]
      refine (rletter_any _ _).mono ?_
      rintro e w1 ⟨rfl, rfl⟩
      cases hp : ltr l[k] with
      | true =>
        have hq := Lib.hid (show l.all ltr = (l.drop (k + 1)).all ltr by rw [HR.out, hs.out, hp, Bool.true_and]); clear hp hs
        go_wp2
        go_round
        case rel => exact ⟨k + 1, by omega, by go_num, hq.out⟩
        case measure => simp [intOf]; omega
      | false =>
        have hq := Lib.hid (show l.all ltr = false by rw [HR.out, hs.out, hp, Bool.false_and]); clear hp hs
        go_wp2
        go_ret
        exact ⟨ret_str (by unfold nt; rw [hq.out, if_neg (by decide)]; apply ByteArray.ext; simp [ByteArray.data_append]), rfl⟩
    · have hq := Lib.hid (show l.all ltr = true by rw [HR.out, List.drop_of_length_le (by omega)]; rfl)
      go_wp2
      go_ret
      exact ⟨ret_str (by unfold nt; rw [hq.out, if_pos rfl]), rfl⟩
theorem off_any (n : Int) (w : World) :
    Calls Tryd.prog 26 #[.int .i64 n] w fun e w' => e = .returned (.bool (offB n)) ∧ w = w' := by
  go_enter Tryd.func26, Tryd.ntmps26
  go_wp2
  all_goals (go_ret; refine ⟨ret_bool ?_, rfl⟩; first | (simp [offB, *]; done) | (simp [offB, *]; intros; omega))
set_option maxHeartbeats 1000000 in
theorem rRule_any (r : Ru) (w : World) :
    Calls Tryd.prog 17 #[ruV r] w fun e w' => e = .returned (.bool (mayR r)) ∧ Kept w w' := by
  obtain ⟨k, m, x, d, a⟩ := r
  have hm := Lib.hid (show mayR ⟨k, m, x, d, a⟩ = decide (-604799 ≤ a ∧ a ≤ 604799 ∧ (k = 0 ∧ 1 ≤ d ∧ d ≤ 365 ∧ m = 0 ∧ x = 0 ∨ k = 1 ∧ 0 ≤ d ∧ d ≤ 365 ∧ m = 0 ∧ x = 0 ∨ k = 2 ∧ 1 ≤ m ∧ m ≤ 12 ∧ 1 ≤ x ∧ x ≤ 5 ∧ 0 ≤ d ∧ d ≤ 6)) from rfl)
  by_cases a1 : a < -604799
  · go_enter Tryd.func17, Tryd.ntmps17
    go_wp2
    go_ret
    exact ⟨ret_bool (by rw [hm.out]; simp; omega), (Kept.refl _).alloc _⟩
  by_cases a2 : 604799 < a
  · go_enter Tryd.func17, Tryd.ntmps17
    go_wp2
    go_ret
    exact ⟨ret_bool (by rw [hm.out]; simp; omega), (Kept.refl _).alloc _⟩
  by_cases k0 : k = 0
  · subst k0
    have hb := Lib.hid (show mayR ⟨0, m, x, d, a⟩ = decide (1 ≤ d ∧ d ≤ 365 ∧ m = 0 ∧ x = 0) by rw [hm.out, Bool.eq_iff_iff]; simp; omega)
    clear hm
    go_enter Tryd.func17, Tryd.ntmps17
    go_wp2
    all_goals
      go_ret
      refine ⟨ret_bool ?_, (Kept.refl _).alloc _⟩
      first | (rw [hb.out]; simp; omega) | (rw [hb.out, Bool.eq_iff_iff]; simp; omega) | (simp [mayR]; omega) | (rw [Bool.eq_iff_iff]; simp [mayR]; omega)
  by_cases k1 : k = 1
  · subst k1
    have hb := Lib.hid (show mayR ⟨1, m, x, d, a⟩ = decide (0 ≤ d ∧ d ≤ 365 ∧ m = 0 ∧ x = 0) by rw [hm.out, Bool.eq_iff_iff]; simp; omega)
    clear hm
    go_enter Tryd.func17, Tryd.ntmps17
    go_wp2
    all_goals
      go_ret
      refine ⟨ret_bool ?_, (Kept.refl _).alloc _⟩
      first | (rw [hb.out]; simp; omega) | (rw [hb.out, Bool.eq_iff_iff]; simp; omega) | (simp [mayR]; omega) | (rw [Bool.eq_iff_iff]; simp [mayR]; omega)
  by_cases k2 : k = 2
  · subst k2
    have hb := Lib.hid (show mayR ⟨2, m, x, d, a⟩ = decide (1 ≤ m ∧ m ≤ 12 ∧ 1 ≤ x ∧ x ≤ 5 ∧ 0 ≤ d ∧ d ≤ 6) by rw [hm.out, Bool.eq_iff_iff]; simp; omega)
    clear hm
    go_enter Tryd.func17, Tryd.ntmps17
    go_wp2
    all_goals
      go_ret
      refine ⟨ret_bool ?_, (Kept.refl _).alloc _⟩
      rw [hb.out]
      first | (simp; omega) | (rw [Bool.eq_iff_iff]; simp; omega)
  have hb := Lib.hid (show mayR ⟨k, m, x, d, a⟩ = false by rw [hm.out]; simp; omega)
  clear hm
  go_enter Tryd.func17, Tryd.ntmps17
  go_wp2
  go_ret
  exact ⟨ret_bool hb.out.symm, (Kept.refl _).alloc _⟩
end Go.Proofs.YtomnjdammfiadaaDoor
