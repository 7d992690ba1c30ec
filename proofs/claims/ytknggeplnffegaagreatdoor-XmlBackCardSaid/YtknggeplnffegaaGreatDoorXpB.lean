/- Package xml: signs of names, names, local parts; a name that is taken, blanks. -/
import Derived.Test.YtknggeplnffegaaGreatDoorXpA
import Derived.Test.YtknggeplnffegaaGreatDoorXmR
set_option linter.unusedVariables false
namespace Go.Proofs.YtknggeplnffegaaGreatDoor
open Go.ChangeShapes Go.WideShapes Go.ChangeAt Go.RowKit
open En Xm
set_option maxRecDepth 100000 in
set_option maxHeartbeats 4000000 in
theorem beg_any (c : UInt8) (w : World) : Calls Tryz.prog 26 #[.int .u8 c.toNat] w fun e w' => e = .returned (.bool (sgn true c)) ∧ w = w' := by
  have hc := c.toNat_lt
  rcases (show (0 ≤ c.toNat ∧ c.toNat ≤ 64) ∨ (65 ≤ c.toNat ∧ c.toNat ≤ 90) ∨ (91 ≤ c.toNat ∧ c.toNat ≤ 94) ∨ (95 ≤ c.toNat ∧ c.toNat ≤ 95) ∨ (96 ≤ c.toNat ∧ c.toNat ≤ 96) ∨ (97 ≤ c.toNat ∧ c.toNat ≤ 122) ∨ (123 ≤ c.toNat ∧ c.toNat ≤ 255) by omega) with h | h | h | h | h | h | h
  · have HR := Lib.hid (show sgn true c = false from sgn_at true c 0 64 (by omega) (by omega) (by omega) (by decide +kernel))
    have g0 : decide (97 ≤ (c.toNat : Int)) = false := by simp; omega
    have g1 : decide ((c.toNat : Int) ≤ 122) = true := by simp; omega
    have g2 : decide (65 ≤ (c.toNat : Int)) = false := by simp; omega
    have g3 : decide ((c.toNat : Int) ≤ 90) = true := by simp; omega
    have g4 : ((c.toNat : Int) == 95) = false := by simp; omega
    clear h hc
    go_enter Tryz.func26, Tryz.ntmps26
    go_wp2
    go_ret
    exact ⟨by rw [HR.out]; rfl, rfl⟩
  · have HR := Lib.hid (show sgn true c = true from sgn_at true c 65 90 (by omega) (by omega) (by omega) (by decide +kernel))
    have g0 : decide (97 ≤ (c.toNat : Int)) = false := by simp; omega
    have g1 : decide ((c.toNat : Int) ≤ 122) = true := by simp; omega
    have g2 : decide (65 ≤ (c.toNat : Int)) = true := by simp; omega
    have g3 : decide ((c.toNat : Int) ≤ 90) = true := by simp; omega
    have g4 : ((c.toNat : Int) == 95) = false := by simp; omega
    clear h hc
    go_enter Tryz.func26, Tryz.ntmps26
    go_wp2
    go_ret
    exact ⟨by rw [HR.out]; rfl, rfl⟩
  · have HR := Lib.hid (show sgn true c = false from sgn_at true c 91 94 (by omega) (by omega) (by omega) (by decide +kernel))
    have g0 : decide (97 ≤ (c.toNat : Int)) = false := by simp; omega
    have g1 : decide ((c.toNat : Int) ≤ 122) = true := by simp; omega
    have g2 : decide (65 ≤ (c.toNat : Int)) = true := by simp; omega
    have g3 : decide ((c.toNat : Int) ≤ 90) = false := by simp; omega
    have g4 : ((c.toNat : Int) == 95) = false := by simp; omega
    clear h hc
    go_enter Tryz.func26, Tryz.ntmps26
    go_wp2
    go_ret
    exact ⟨by rw [HR.out]; rfl, rfl⟩
  · have HR := Lib.hid (show sgn true c = true from sgn_at true c 95 95 (by omega) (by omega) (by omega) (by decide +kernel))
    have g0 : decide (97 ≤ (c.toNat : Int)) = false := by simp; omega
    have g1 : decide ((c.toNat : Int) ≤ 122) = true := by simp; omega
    have g2 : decide (65 ≤ (c.toNat : Int)) = true := by simp; omega
    have g3 : decide ((c.toNat : Int) ≤ 90) = false := by simp; omega
    have g4 : ((c.toNat : Int) == 95) = true := by simp; omega
    clear h hc
    go_enter Tryz.func26, Tryz.ntmps26
    go_wp2
    go_ret
    exact ⟨by rw [HR.out]; rfl, rfl⟩
  · have HR := Lib.hid (show sgn true c = false from sgn_at true c 96 96 (by omega) (by omega) (by omega) (by decide +kernel))
    have g0 : decide (97 ≤ (c.toNat : Int)) = false := by simp; omega
    have g1 : decide ((c.toNat : Int) ≤ 122) = true := by simp; omega
    have g2 : decide (65 ≤ (c.toNat : Int)) = true := by simp; omega
    have g3 : decide ((c.toNat : Int) ≤ 90) = false := by simp; omega
    have g4 : ((c.toNat : Int) == 95) = false := by simp; omega
    clear h hc
    go_enter Tryz.func26, Tryz.ntmps26
    go_wp2
    go_ret
    exact ⟨by rw [HR.out]; rfl, rfl⟩
  · have HR := Lib.hid (show sgn true c = true from sgn_at true c 97 122 (by omega) (by omega) (by omega) (by decide +kernel))
    have g0 : decide (97 ≤ (c.toNat : Int)) = true := by simp; omega
    have g1 : decide ((c.toNat : Int) ≤ 122) = true := by simp; omega
    have g2 : decide (65 ≤ (c.toNat : Int)) = true := by simp; omega
    have g3 : decide ((c.toNat : Int) ≤ 90) = false := by simp; omega
    have g4 : ((c.toNat : Int) == 95) = false := by simp; omega
    clear h hc
    go_enter Tryz.func26, Tryz.ntmps26
    go_wp2
    go_ret
    exact ⟨by rw [HR.out]; rfl, rfl⟩
  · have HR := Lib.hid (show sgn true c = false from sgn_at true c 123 255 (by omega) (by omega) (by omega) (by decide +kernel))
    have g0 : decide (97 ≤ (c.toNat : Int)) = true := by simp; omega
    have g1 : decide ((c.toNat : Int) ≤ 122) = false := by simp; omega
    have g2 : decide (65 ≤ (c.toNat : Int)) = true := by simp; omega
    have g3 : decide ((c.toNat : Int) ≤ 90) = false := by simp; omega
    have g4 : ((c.toNat : Int) == 95) = false := by simp; omega
    clear h hc
    go_enter Tryz.func26, Tryz.ntmps26
    go_wp2
    go_ret
    exact ⟨by rw [HR.out]; rfl, rfl⟩
set_option maxRecDepth 100000 in
set_option maxHeartbeats 4000000 in
theorem ofn_any (c : UInt8) (w : World) : Calls Tryz.prog 43 #[.int .u8 c.toNat] w fun e w' => e = .returned (.bool (sgn false c)) ∧ w = w' := by
  have hc := c.toNat_lt
  rcases (show (0 ≤ c.toNat ∧ c.toNat ≤ 44) ∨ (45 ≤ c.toNat ∧ c.toNat ≤ 45) ∨ (46 ≤ c.toNat ∧ c.toNat ≤ 46) ∨ (47 ≤ c.toNat ∧ c.toNat ≤ 47) ∨ (48 ≤ c.toNat ∧ c.toNat ≤ 57) ∨ (58 ≤ c.toNat ∧ c.toNat ≤ 58) ∨ (59 ≤ c.toNat ∧ c.toNat ≤ 64) ∨ (65 ≤ c.toNat ∧ c.toNat ≤ 90) ∨ (91 ≤ c.toNat ∧ c.toNat ≤ 94) ∨ (95 ≤ c.toNat ∧ c.toNat ≤ 95) ∨ (96 ≤ c.toNat ∧ c.toNat ≤ 96) ∨ (97 ≤ c.toNat ∧ c.toNat ≤ 122) ∨ (123 ≤ c.toNat ∧ c.toNat ≤ 255) by omega) with h | h | h | h | h | h | h | h | h | h | h | h | h
  · have HR := Lib.hid (show sgn false c = false from sgn_at false c 0 44 (by omega) (by omega) (by omega) (by decide +kernel))
    have g0 : decide (48 ≤ (c.toNat : Int)) = false := by simp; omega
    have g1 : decide ((c.toNat : Int) ≤ 57) = true := by simp; omega
    have g2 : ((c.toNat : Int) == 45) = false := by simp; omega
    have g3 : ((c.toNat : Int) == 46) = false := by simp; omega
    have g4 : ((c.toNat : Int) == 58) = false := by simp; omega
    have HB := Lib.hid (show sgn true c = false from sgn_at true c 0 44 (by omega) (by omega) (by omega) (by decide +kernel))
    clear h hc
    go_enter Tryz.func43, Tryz.ntmps43
    go_wp2_with fail
    refine (beg_any c _).mono ?_
    rintro e w1 ⟨rfl, rfl⟩
    rw [HB.out]
    go_wp2
    go_ret
    exact ⟨by rw [HR.out]; rfl, rfl⟩
  · have HR := Lib.hid (show sgn false c = true from sgn_at false c 45 45 (by omega) (by omega) (by omega) (by decide +kernel))
    have g0 : decide (48 ≤ (c.toNat : Int)) = false := by simp; omega
    have g1 : decide ((c.toNat : Int) ≤ 57) = true := by simp; omega
    have g2 : ((c.toNat : Int) == 45) = true := by simp; omega
    have g3 : ((c.toNat : Int) == 46) = false := by simp; omega
    have g4 : ((c.toNat : Int) == 58) = false := by simp; omega
    have HB := Lib.hid (show sgn true c = false from sgn_at true c 45 45 (by omega) (by omega) (by omega) (by decide +kernel))
    clear h hc
    go_enter Tryz.func43, Tryz.ntmps43
    go_wp2_with fail
    refine (beg_any c _).mono ?_
    rintro e w1 ⟨rfl, rfl⟩
    rw [HB.out]
    go_wp2
    go_ret
    exact ⟨by rw [HR.out]; rfl, rfl⟩
  · have HR := Lib.hid (show sgn false c = true from sgn_at false c 46 46 (by omega) (by omega) (by omega) (by decide +kernel))
    have g0 : decide (48 ≤ (c.toNat : Int)) = false := by simp; omega
    have g1 : decide ((c.toNat : Int) ≤ 57) = true := by simp; omega
    have g2 : ((c.toNat : Int) == 45) = false := by simp; omega
    have g3 : ((c.toNat : Int) == 46) = true := by simp; omega
    have g4 : ((c.toNat : Int) == 58) = false := by simp; omega
    have HB := Lib.hid (show sgn true c = false from sgn_at true c 46 46 (by omega) (by omega) (by omega) (by decide +kernel))
    clear h hc
    go_enter Tryz.func43, Tryz.ntmps43
    go_wp2_with fail
    refine (beg_any c _).mono ?_
    rintro e w1 ⟨rfl, rfl⟩
    rw [HB.out]
    go_wp2
    go_ret
    exact ⟨by rw [HR.out]; rfl, rfl⟩
  · have HR := Lib.hid (show sgn false c = false from sgn_at false c 47 47 (by omega) (by omega) (by omega) (by decide +kernel))
    have g0 : decide (48 ≤ (c.toNat : Int)) = false := by simp; omega
    have g1 : decide ((c.toNat : Int) ≤ 57) = true := by simp; omega
    have g2 : ((c.toNat : Int) == 45) = false := by simp; omega
    have g3 : ((c.toNat : Int) == 46) = false := by simp; omega
    have g4 : ((c.toNat : Int) == 58) = false := by simp; omega
    have HB := Lib.hid (show sgn true c = false from sgn_at true c 47 47 (by omega) (by omega) (by omega) (by decide +kernel))
    clear h hc
    go_enter Tryz.func43, Tryz.ntmps43
    go_wp2_with fail
    refine (beg_any c _).mono ?_
    rintro e w1 ⟨rfl, rfl⟩
    rw [HB.out]
    go_wp2
    go_ret
    exact ⟨by rw [HR.out]; rfl, rfl⟩
  · have HR := Lib.hid (show sgn false c = true from sgn_at false c 48 57 (by omega) (by omega) (by omega) (by decide +kernel))
    have g0 : decide (48 ≤ (c.toNat : Int)) = true := by simp; omega
    have g1 : decide ((c.toNat : Int) ≤ 57) = true := by simp; omega
    have g2 : ((c.toNat : Int) == 45) = false := by simp; omega
    have g3 : ((c.toNat : Int) == 46) = false := by simp; omega
    have g4 : ((c.toNat : Int) == 58) = false := by simp; omega
    have HB := Lib.hid (show sgn true c = false from sgn_at true c 48 57 (by omega) (by omega) (by omega) (by decide +kernel))
    clear h hc
    go_enter Tryz.func43, Tryz.ntmps43
    go_wp2_with fail
    refine (beg_any c _).mono ?_
    rintro e w1 ⟨rfl, rfl⟩
    rw [HB.out]
    go_wp2
    go_ret
    exact ⟨by rw [HR.out]; rfl, rfl⟩
  · have HR := Lib.hid (show sgn false c = true from sgn_at false c 58 58 (by omega) (by omega) (by omega) (by decide +kernel))
    have g0 : decide (48 ≤ (c.toNat : Int)) = true := by simp; omega
    have g1 : decide ((c.toNat : Int) ≤ 57) = false := by simp; omega
    have g2 : ((c.toNat : Int) == 45) = false := by simp; omega
    have g3 : ((c.toNat : Int) == 46) = false := by simp; omega
    have g4 : ((c.toNat : Int) == 58) = true := by simp; omega
    have HB := Lib.hid (show sgn true c = false from sgn_at true c 58 58 (by omega) (by omega) (by omega) (by decide +kernel))
    clear h hc
    go_enter Tryz.func43, Tryz.ntmps43
    go_wp2_with fail
    refine (beg_any c _).mono ?_
    rintro e w1 ⟨rfl, rfl⟩
    rw [HB.out]
    go_wp2
    go_ret
    exact ⟨by rw [HR.out]; rfl, rfl⟩
  · have HR := Lib.hid (show sgn false c = false from sgn_at false c 59 64 (by omega) (by omega) (by omega) (by decide +kernel))
    have g0 : decide (48 ≤ (c.toNat : Int)) = true := by simp; omega
    have g1 : decide ((c.toNat : Int) ≤ 57) = false := by simp; omega
    have g2 : ((c.toNat : Int) == 45) = false := by simp; omega
    have g3 : ((c.toNat : Int) == 46) = false := by simp; omega
    have g4 : ((c.toNat : Int) == 58) = false := by simp; omega
    have HB := Lib.hid (show sgn true c = false from sgn_at true c 59 64 (by omega) (by omega) (by omega) (by decide +kernel))
    clear h hc
    go_enter Tryz.func43, Tryz.ntmps43
    go_wp2_with fail
    refine (beg_any c _).mono ?_
    rintro e w1 ⟨rfl, rfl⟩
    rw [HB.out]
    go_wp2
    go_ret
    exact ⟨by rw [HR.out]; rfl, rfl⟩
  · have HR := Lib.hid (show sgn false c = true from sgn_at false c 65 90 (by omega) (by omega) (by omega) (by decide +kernel))
    have g0 : decide (48 ≤ (c.toNat : Int)) = true := by simp; omega
    have g1 : decide ((c.toNat : Int) ≤ 57) = false := by simp; omega
    have g2 : ((c.toNat : Int) == 45) = false := by simp; omega
    have g3 : ((c.toNat : Int) == 46) = false := by simp; omega
    have g4 : ((c.toNat : Int) == 58) = false := by simp; omega
    have HB := Lib.hid (show sgn true c = true from sgn_at true c 65 90 (by omega) (by omega) (by omega) (by decide +kernel))
    clear h hc
    go_enter Tryz.func43, Tryz.ntmps43
    go_wp2_with fail
    refine (beg_any c _).mono ?_
    rintro e w1 ⟨rfl, rfl⟩
    rw [HB.out]
    go_wp2
    go_ret
    exact ⟨by rw [HR.out]; rfl, rfl⟩
  · have HR := Lib.hid (show sgn false c = false from sgn_at false c 91 94 (by omega) (by omega) (by omega) (by decide +kernel))
    have g0 : decide (48 ≤ (c.toNat : Int)) = true := by simp; omega
    have g1 : decide ((c.toNat : Int) ≤ 57) = false := by simp; omega
    have g2 : ((c.toNat : Int) == 45) = false := by simp; omega
    have g3 : ((c.toNat : Int) == 46) = false := by simp; omega
    have g4 : ((c.toNat : Int) == 58) = false := by simp; omega
    have HB := Lib.hid (show sgn true c = false from sgn_at true c 91 94 (by omega) (by omega) (by omega) (by decide +kernel))
    clear h hc
    go_enter Tryz.func43, Tryz.ntmps43
    go_wp2_with fail
    refine (beg_any c _).mono ?_
    rintro e w1 ⟨rfl, rfl⟩
    rw [HB.out]
    go_wp2
    go_ret
    exact ⟨by rw [HR.out]; rfl, rfl⟩
  · have HR := Lib.hid (show sgn false c = true from sgn_at false c 95 95 (by omega) (by omega) (by omega) (by decide +kernel))
    have g0 : decide (48 ≤ (c.toNat : Int)) = true := by simp; omega
    have g1 : decide ((c.toNat : Int) ≤ 57) = false := by simp; omega
    have g2 : ((c.toNat : Int) == 45) = false := by simp; omega
    have g3 : ((c.toNat : Int) == 46) = false := by simp; omega
    have g4 : ((c.toNat : Int) == 58) = false := by simp; omega
    have HB := Lib.hid (show sgn true c = true from sgn_at true c 95 95 (by omega) (by omega) (by omega) (by decide +kernel))
    clear h hc
    go_enter Tryz.func43, Tryz.ntmps43
    go_wp2_with fail
    refine (beg_any c _).mono ?_
    rintro e w1 ⟨rfl, rfl⟩
    rw [HB.out]
    go_wp2
    go_ret
    exact ⟨by rw [HR.out]; rfl, rfl⟩
  · have HR := Lib.hid (show sgn false c = false from sgn_at false c 96 96 (by omega) (by omega) (by omega) (by decide +kernel))
    have g0 : decide (48 ≤ (c.toNat : Int)) = true := by simp; omega
    have g1 : decide ((c.toNat : Int) ≤ 57) = false := by simp; omega
    have g2 : ((c.toNat : Int) == 45) = false := by simp; omega
    have g3 : ((c.toNat : Int) == 46) = false := by simp; omega
    have g4 : ((c.toNat : Int) == 58) = false := by simp; omega
    have HB := Lib.hid (show sgn true c = false from sgn_at true c 96 96 (by omega) (by omega) (by omega) (by decide +kernel))
    clear h hc
    go_enter Tryz.func43, Tryz.ntmps43
    go_wp2_with fail
    refine (beg_any c _).mono ?_
    rintro e w1 ⟨rfl, rfl⟩
    rw [HB.out]
    go_wp2
    go_ret
    exact ⟨by rw [HR.out]; rfl, rfl⟩
  · have HR := Lib.hid (show sgn false c = true from sgn_at false c 97 122 (by omega) (by omega) (by omega) (by decide +kernel))
    have g0 : decide (48 ≤ (c.toNat : Int)) = true := by simp; omega
    have g1 : decide ((c.toNat : Int) ≤ 57) = false := by simp; omega
    have g2 : ((c.toNat : Int) == 45) = false := by simp; omega
    have g3 : ((c.toNat : Int) == 46) = false := by simp; omega
    have g4 : ((c.toNat : Int) == 58) = false := by simp; omega
    have HB := Lib.hid (show sgn true c = true from sgn_at true c 97 122 (by omega) (by omega) (by omega) (by decide +kernel))
    clear h hc
    go_enter Tryz.func43, Tryz.ntmps43
    go_wp2_with fail
    refine (beg_any c _).mono ?_
    rintro e w1 ⟨rfl, rfl⟩
    rw [HB.out]
    go_wp2
    go_ret
    exact ⟨by rw [HR.out]; rfl, rfl⟩
  · have HR := Lib.hid (show sgn false c = false from sgn_at false c 123 255 (by omega) (by omega) (by omega) (by decide +kernel))
    have g0 : decide (48 ≤ (c.toNat : Int)) = true := by simp; omega
    have g1 : decide ((c.toNat : Int) ≤ 57) = false := by simp; omega
    have g2 : ((c.toNat : Int) == 45) = false := by simp; omega
    have g3 : ((c.toNat : Int) == 46) = false := by simp; omega
    have g4 : ((c.toNat : Int) == 58) = false := by simp; omega
    have HB := Lib.hid (show sgn true c = false from sgn_at true c 123 255 (by omega) (by omega) (by omega) (by decide +kernel))
    clear h hc
    go_enter Tryz.func43, Tryz.ntmps43
    go_wp2_with fail
    refine (beg_any c _).mono ?_
    rintro e w1 ⟨rfl, rfl⟩
    rw [HB.out]
    go_wp2
    go_ret
    exact ⟨by rw [HR.out]; rfl, rfl⟩
theorem while_none {p : UInt8 → Bool} {s : B} {k : Nat} {a : UInt8} (hI : (s.take k).all p = true) (ha : s[k]? = some a) (hp : p a = false) : s.takeWhile p = s.take k := by
  obtain ⟨hk, h2⟩ := List.getElem?_eq_some_iff.1 ha
  have e : s = s.take k ++ a :: s.drop (k + 1) := by
    conv => lhs; rw [← List.take_append_drop k s, List.drop_eq_getElem_cons hk, h2]
  conv => lhs; rw [e]
  rw [List.takeWhile_append_of_pos (fun x hx => List.all_eq_true.1 hI x hx), List.takeWhile_cons, if_neg (by rw [hp]; decide), List.append_nil]
theorem while_all {p : UInt8 → Bool} : ∀ {s : B}, s.all p = true → s.takeWhile p = s
  | [], _ => rfl
  | c :: r, h => by
    rw [List.all_cons, Bool.and_eq_true] at h
    rw [List.takeWhile_cons, if_pos h.1, while_all h.2]
theorem all_while {p : UInt8 → Bool} : ∀ {s : B}, s.takeWhile p = s → s.all p = true
  | [], _ => rfl
  | c :: r, h => by
    rw [List.takeWhile_cons] at h
    split at h
    · rename_i hc
      rw [List.cons.injEq] at h
      rw [List.all_cons, hc, all_while h.2]; rfl
    · cases h
theorem all_snoc {p : UInt8 → Bool} {s : B} {k : Nat} {a : UInt8} (hI : (s.take k).all p = true) (ha : s[k]? = some a) (hp : p a = true) : (s.take (k + 1)).all p = true := by
  rw [take_snoc ha, List.all_append, hI]; simp [hp]
set_option maxRecDepth 100000 in
theorem nby_any (s : B) (w : World) (hl : s.length ≤ 1000000) : Calls Tryz.prog 27 #[sV s] w fun e w' => e = .returned (iV (s.takeWhile (sgn false)).length) ∧ w = w' := by
  go_enter Tryz.func27, Tryz.ntmps27
  go_wp2_with fail
  go_loopw [6] (fun i wr => wr = w ∧ ∃ k : Nat, k ≤ s.length ∧ i = .int .i64 k ∧ Hid ((s.take k).all (sgn false) = true)) (fun i _ => s.length - (intOf i).toNat)
  case atStart => exact ⟨rfl, 0, Nat.zero_le _, rfl, Lib.hid rfl⟩
  case round =>
    obtain ⟨rfl, k, hk, rfl, hA⟩ := hrel
    by_cases hlt : k < s.length
    · obtain ⟨a, ha⟩ : ∃ a, s[k]? = some a := ⟨_, List.getElem?_eq_getElem hlt⟩
      have hat := byte_at s k a ha
      have HA := Lib.hid ha
      clear ha
      go_wp2_with fail
      refine (ofn_any a _).mono ?_
      rintro e w1 ⟨rfl, rfl⟩
      cases hs : sgn false a with
      | true =>
        have HS := Lib.hid (all_snoc hA.out HA.out hs)
        clear hs
        go_wp2
        go_roundw
        case rel => exact ⟨trivial, k + 1, hlt, by go_num, HS⟩
        case measure => simp [intOf]; omega
      | false =>
        have HS := Lib.hid (show (s.takeWhile (sgn false)).length = k by rw [while_none hA.out HA.out hs, List.length_take]; omega)
        clear hs
        go_wp2
        go_ret
        exact ⟨by rw [HS.out]; rfl, rfl⟩
    · have h1 : k = s.length := by omega
      have HS := Lib.hid (show (s.takeWhile (sgn false)).length = s.length by
        have := hA.out
        rw [h1, List.take_length] at this
        rw [while_all this])
      clear hA
      subst h1
      go_wp2
      go_ret
      exact ⟨by rw [HS.out]; rfl, rfl⟩
theorem sgn_more (c : UInt8) (h : sgn true c = true) : sgn false c = true := by
  unfold sgn at h ⊢
  simp only [Bool.or_eq_true, Bool.not_true, Bool.false_and, Bool.or_false] at h ⊢
  exact Or.inl h
theorem all_len {p : UInt8 → Bool} (s : B) : ((s.takeWhile p).length = s.length) ↔ s.all p = true := by
  constructor
  · intro h
    have e : s.takeWhile p = s := (List.takeWhile_prefix (l := s) p).eq_of_length h
    exact all_while e
  · intro h; rw [while_all h]
set_option maxRecDepth 100000 in
theorem pname_any (s : B) (w : World) (hl : s.length ≤ 1000000) : Calls Tryz.prog 17 #[sV s] w fun e w' => e = .returned (.bool (isN s)) ∧ w = w' := by
  cases s with
  | nil =>
    go_enter Tryz.func17, Tryz.ntmps17
    go_wp2
    go_ret
    exact ⟨rfl, rfl⟩
  | cons c r =>
    have hse : (c :: r).isEmpty = false := rfl
    have hpos : 0 < (c :: r).length := by simp
    have hposI : (0 : Int) < (c :: r).length := by simp
    have hne : (c :: r) ≠ [] := by simp
    have hat := byte_at (c :: r) 0 c rfl
    have HN := Lib.hid (show isN (c :: r) = (decide ((c :: r).length ≤ 60) && (sgn true c && decide (((c :: r).takeWhile (sgn false)).length = (c :: r).length))) by
      unfold isN
      rw [show allN (c :: r) = (sgn true c && r.all (sgn false)) from rfl]
      rw [show decide (1 ≤ (c :: r).length) = true by simp, Bool.true_and]
      congr 1
      cases h1 : sgn true c with
      | false => rfl
      | true =>
        rw [Bool.true_and, Bool.true_and]
        rw [show r.all (sgn false) = (c :: r).all (sgn false) by rw [List.all_cons, sgn_more c h1, Bool.true_and]]
        rw [Bool.eq_iff_iff, decide_eq_true_eq, all_len])
    generalize hS : c :: r = s at *
    clear hS
    have hd : decide ((s.length : Int) ≤ 60) = decide (s.length ≤ 60) := by rw [decide_eq_decide]; omega
    by_cases h60 : s.length ≤ 60
    · have hd1 : decide ((s.length : Int) ≤ 60) = true := by rw [hd]; exact decide_eq_true h60
      rw [decide_eq_true h60, Bool.true_and] at HN
      have h60I : (s.length : Int) ≤ 60 := by omega
      clear hd h60
      go_enter Tryz.func17, Tryz.ntmps17
      go_wp2_with fail
      refine (beg_any c _).mono ?_
      rintro e w1 ⟨rfl, rfl⟩
      generalize sgn true c = q at *
      cases q with
      | false =>
        rw [Bool.false_and] at HN
        go_wp2
        go_ret
        exact ⟨by rw [HN.out]; rfl, rfl⟩
      | true =>
        rw [Bool.true_and] at HN
        go_wp2_with fail
        refine (nby_any s _ hl).mono ?_
        rintro e w1 ⟨rfl, rfl⟩
        generalize (s.takeWhile (sgn false)).length = m at *
        by_cases hm : m = s.length
        · have hb : ((m : Int) == s.length) = true := by simp; omega
          rw [decide_eq_true hm] at HN
          clear hm
          go_wp2
          go_ret
          exact ⟨by rw [HN.out]; rfl, rfl⟩
        · have hb : ((m : Int) == s.length) = false := by simp; omega
          rw [decide_eq_false hm] at HN
          clear hm
          go_wp2
          go_ret
          exact ⟨by rw [HN.out]; rfl, rfl⟩
    · have hd1 : decide ((s.length : Int) ≤ 60) = false := by rw [hd]; exact decide_eq_false h60
      rw [decide_eq_false h60, Bool.false_and] at HN
      clear hd h60
      go_enter Tryz.func17, Tryz.ntmps17
      go_wp2
      go_ret
      exact ⟨by rw [HN.out]; rfl, rfl⟩
theorem locF_no : ∀ (s cur : B), (58 : UInt8) ∉ s → locF cur s = cur
  | [], cur, _ => rfl
  | c :: r, cur, h => by
    simp only [List.mem_cons, not_or] at h
    rw [locF, if_neg (fun e => h.1 e.symm)]
    exact locF_no r cur h.2
theorem locF_at : ∀ (a b cur : B), (58 : UInt8) ∉ b → locF cur (a ++ 58 :: b) = b
  | [], b, cur, h => by rw [List.nil_append, locF, if_pos rfl]; exact locF_no b b h
  | c :: a, b, cur, h => by
    rw [List.cons_append, locF]
    split
    · exact locF_at a b _ h
    · exact locF_at a b _ h
theorem getb (s : B) (j : Nat) (h : j < s.length) : ((ByteArray.mk s.toArray).data[j]!) = s[j] := by
  simp [h]
theorem lix_loc (s : B) : ∃ k : Nat, Lib.lastIndexByte ⟨s.toArray⟩ 58 + 1 = (k : Int) ∧ k ≤ s.length ∧ s.drop k = loc s := by
  have hsz : (ByteArray.mk s.toArray).size = s.length := List.size_toArray
  unfold Lib.lastIndexByte
  rcases Lib.lastIdx_spec ⟨s.toArray⟩ 58 (ByteArray.mk s.toArray).size with ⟨h1, h2⟩ | ⟨i, hi, h1, h2, h3⟩
  · refine ⟨0, by rw [h1]; rfl, Nat.zero_le _, ?_⟩
    have : (58 : UInt8) ∉ s := by
      intro hm
      obtain ⟨j, hj, he⟩ := List.getElem_of_mem hm
      have := h2 j (by omega)
      rw [getb s j hj, he] at this
      exact this rfl
    rw [List.drop_zero]; unfold loc; rw [locF_no _ _ this]
  · have hi' : i < s.length := by omega
    refine ⟨i + 1, by rw [h1]; rfl, hi', ?_⟩
    rw [getb s i hi'] at h2
    have hn : (58 : UInt8) ∉ s.drop (i + 1) := by
      intro hm
      obtain ⟨j, hj, he⟩ := List.getElem_of_mem hm
      rw [List.length_drop] at hj
      rw [List.getElem_drop] at he
      have := h3 (i + 1 + j) (by omega) (by omega)
      rw [getb s _ (by omega), he] at this
      exact this rfl
    have e : s = s.take i ++ 58 :: s.drop (i + 1) := by
      conv => lhs; rw [← List.take_append_drop i s, List.drop_eq_getElem_cons hi']
      rw [show s[i] = 58 from u8_eq h2]
    unfold loc
    conv => rhs; arg 2; rw [e]
    rw [locF_at _ _ _ hn]
set_option maxRecDepth 100000 in
theorem plocal_any (s : B) (w : World) (hl : s.length ≤ 1000000) : Calls Tryz.prog 18 #[sV s] w fun e w' => e = .returned (sV (loc s)) ∧ w = w' := by
  have hsz : (ByteArray.mk s.toArray).size = s.length := List.size_toArray
  obtain ⟨k, hk, hks, hd⟩ := lix_loc s
  have hsl := cut_from s (k : Int) k rfl hks
  rw [hd] at hsl
  generalize hx : Lib.lastIndexByte ⟨s.toArray⟩ 58 = x at *
  have hxk : x = (k : Int) - 1 := by omega
  subst hxk
  have e1 : (k : Int) - 1 + 1 = k := by omega
  clear hk hd
  go_enter Tryz.func18, Tryz.ntmps18
  go_wp2_with fail
  refine (Tryz.strings_LastIndexByte ⟨s.toArray⟩ 58 (by omega) _).mono ?_
  rintro e w1 ⟨rfl, rfl⟩
  rw [hx]
  clear hx
  go_wp2
  go_ret
  exact ⟨rfl, rfl⟩
/-! the reader's name, blanks -/
theorem nm_prog (r : B) : isN (r.takeWhile (sgn false)) = isN (nmS r).1 ∧ (isN (nmS r).1 = true → nmS r = (r.takeWhile (sgn false), r.dropWhile (sgn false))) := by
  cases r with
  | nil => exact ⟨rfl, fun _ => rfl⟩
  | cons c r =>
    cases hc : sgn true c with
    | true =>
      have h2 := sgn_more c hc
      have e : nmS (c :: r) = ((c :: r).takeWhile (sgn false), (c :: r).dropWhile (sgn false)) := by
        rw [nmS, if_pos hc, List.takeWhile_cons, List.dropWhile_cons, if_pos h2, if_pos h2]
      rw [e]
      exact ⟨rfl, fun _ => rfl⟩
    | false =>
      have e : nmS (c :: r) = ([], c :: r) := by rw [nmS, if_neg (by rw [hc]; decide)]
      rw [e]
      have h1 : isN (([], c :: r) : B × B).1 = false := rfl
      rw [h1]
      refine ⟨?_, fun h => by cases h⟩
      rw [List.takeWhile_cons]
      split
      · unfold isN
        rw [show allN (c :: r.takeWhile (sgn false)) = (sgn true c && (r.takeWhile (sgn false)).all (sgn false)) from rfl, hc]; simp
      · rfl
/-- a name that is taken, or a fault -/
def PNm (b : Nat) (r : B) (ov : Value) (g : Bool) (lv : Value) (w : World) (e : Ending) (w' : World) : Prop :=
  Ob b w w' ∧ if isN (nmS r).1 = true then e = .returned (sV (nmS r).1) ∧ PB b (nmS r).2 ov g lv w' else e = gon 2
set_option maxRecDepth 100000 in
theorem ptname_any (b : Nat) (r : B) (ov : Value) (g : Bool) (lv : Value) (w : World) (h : PB b r ov g lv w) (hs : r.length ≤ 1000000) :
    Calls Tryz.prog 64 #[pV b] w (PNm b r ov g lv w) := by
  obtain ⟨c0, c1, c2, c3⟩ := h.cs
  have f0 := h.fz 0
  obtain ⟨t1, t2⟩ := take_while_len (sgn false) r
  obtain ⟨n1, n2⟩ := nm_prog r
  have hle : (r.takeWhile (sgn false)).length ≤ r.length := (List.takeWhile_prefix _).length_le
  have hto := cut_to r (r.takeWhile (sgn false)).length hle
  have hfr := cut_from r ((r.takeWhile (sgn false)).length : Nat) _ rfl hle
  rw [t1] at hto
  rw [t2] at hfr
  have H := Lib.hid (h.setR (r.dropWhile (sgn false)))
  have O := Lib.hid ((Ob.refl b w).set 0 (sV (r.dropWhile (sgn false))))
  have HP := Lib.hid (fun (e : Ending) (w' : World) (o : Ob b w w') (h1 : isN (r.takeWhile (sgn false)) = true → e = .returned (sV (r.takeWhile (sgn false))) ∧ PB b (r.dropWhile (sgn false)) ov g lv w') (h2 : isN (r.takeWhile (sgn false)) = false → e = gon 2) => show PNm b r ov g lv w e w' from ⟨o, by
    cases hq : isN (nmS r).1 with
    | true =>
      rw [if_pos rfl, n2 hq]
      exact h1 (by rw [n1]; exact hq)
    | false =>
      rw [if_neg (by decide)]
      exact h2 (by rw [n1]; exact hq)⟩)
  have hnl : (r.takeWhile (sgn false)).length ≤ 1000000 := by omega
  clear h c1 c2 c3 t1 t2 n1 n2
  go_enter Tryz.func64, Tryz.ntmps64
  go_wp2_with fail
  refine (nby_any r _ hs).mono ?_
  rintro e w1 ⟨rfl, rfl⟩
  generalize r.takeWhile (sgn false) = t at *
  generalize r.dropWhile (sgn false) = u at *
  go_wp2_with fail
  refine (pname_any t _ hnl).mono ?_
  rintro e w1 ⟨rfl, rfl⟩
  cases hq : isN t with
  | false =>
    have Z := Lib.hid (HP.out (gon 2) w (Ob.refl b w) (fun h => by rw [hq] at h; cases h) (fun _ => rfl))
    clear hq HP
    go_wp2_with fail
    refine (need_no _).mono ?_
    rintro e w1 ⟨rfl, rfl⟩
    exact ⟨rfl, Z.out⟩
  | true =>
    have Z := Lib.hid (HP.out (.returned (sV t)) _ O.out (fun _ => ⟨rfl, H.out⟩) (fun h => by rw [hq] at h; cases h))
    clear hq HP H O
    go_wp2_with fail
    refine (need_yes _).mono ?_
    rintro e w1 ⟨rfl, rfl⟩
    go_wp2
    go_ret
    exact Z.out
/-- blanks are taken: was there one? -/
def PBl (b : Nat) (r : B) (ov : Value) (g : Bool) (lv : Value) (w : World) (e : Ending) (w' : World) : Prop :=
  e = .returned (.bool (decide ((skip r).length < r.length))) ∧ PB b (skip r) ov g lv w' ∧ Ob b w w'
set_option maxRecDepth 100000 in
set_option maxHeartbeats 1000000 in
theorem pblanks_any (b : Nat) (r : B) (ov : Value) (g : Bool) (lv : Value) (w : World) (h : PB b r ov g lv w) (hs : r.length ≤ 1000000) :
    Calls Tryz.prog 65 #[pV b] w (PBl b r ov g lv w) := by
  obtain ⟨c0, c1, c2, c3⟩ := h.cs
  have f0 := h.fz 0
  obtain ⟨t1, t2⟩ := take_while_len spB r
  have hle : (r.takeWhile spB).length ≤ r.length := (List.takeWhile_prefix _).length_le
  have hlen : (r.takeWhile spB).length + (skip r).length = r.length := by
    unfold skip
    rw [← List.length_append, List.takeWhile_append_dropWhile]
  have hfr := cut_from r ((r.takeWhile spB).length : Nat) _ rfl hle
  rw [t2] at hfr
  have HP := Lib.hid (show PBl b r ov g lv w (.returned (.bool (decide (0 < (r.takeWhile spB).length)))) (w.setCell ⟨b, 0, none⟩ (sV (skip r))) from ⟨by
    congr 2
    rw [decide_eq_decide]; omega, h.setR _, (Ob.refl b w).set 0 _⟩)
  clear h c1 c2 c3 t1 t2 hlen
  have hsk : r.dropWhile spB = skip r := rfl
  rw [hsk] at hfr
  clear hsk
  generalize skip r = u at *
  have HT : ∀ k a, r[k]? = some a → (r.take k).all spB = true → spB a = false → (r.takeWhile spB).length = k := fun k a ha hI hp => by
    have hk := (List.getElem?_eq_some_iff.1 ha).1
    rw [while_none hI ha hp, List.length_take]; omega
  have HE : r.all spB = true → (r.takeWhile spB).length = r.length := fun h => by rw [while_all h]
  have HTE := Lib.hid (And.intro HT HE)
  clear HT HE
  generalize (r.takeWhile spB).length = m at *
  go_enter Tryz.func65, Tryz.ntmps65
  go_wp2_with fail
  go_loopw [3] (fun i wr => wr = w ∧ ∃ k : Nat, k ≤ r.length ∧ i = .int .i64 k ∧ Hid ((r.take k).all spB = true)) (fun i _ => r.length - (intOf i).toNat)
  case atStart => exact ⟨rfl, 0, Nat.zero_le _, rfl, Lib.hid rfl⟩
  case round =>
    obtain ⟨rfl, k, hk, rfl, hA⟩ := hrel
    by_cases hlt : k < r.length
    · obtain ⟨a, ha⟩ : ∃ a, r[k]? = some a := ⟨_, List.getElem?_eq_getElem hlt⟩
      have hat := byte_at r k a ha
      have HA := Lib.hid ha
      have hd : decide ((k : Int) < r.length) = true := decide_eq_true (by omega)
      clear ha
      go_wp2_with fail
      refine (space_any a _).mono ?_
      rintro e w1 ⟨rfl, rfl⟩
      cases hq : spB a with
      | true =>
        have HS := Lib.hid (all_snoc hA.out HA.out hq)
        clear hq
        go_wp2
        go_roundw
        case rel => exact ⟨trivial, k + 1, hlt, by go_num, HS⟩
        case measure => simp [intOf]; omega
      | false =>
        have hm := HTE.out.1 k a HA.out hA.out hq
        clear hq HTE
        subst hm
        go_wp2
        go_ret
        exact HP.out
    · have hm := HTE.out.2 (by have := hA.out; rwa [List.take_of_length_le (by omega)] at this)
      have hmk : m = k := by omega
      have hd : decide ((k : Int) < r.length) = false := decide_eq_false (by omega)
      clear HTE hm
      subst hmk
      go_wp2
      go_ret
      exact HP.out
theorem ptag_any (b : Nat) (r : B) (ov : Value) (g : Bool) (lv : Value) (w : World) (h : PB b r ov g lv w) :
    Calls Tryz.prog 81 #[pV b] w fun e w' => e = .returned (.bool (mEnd r)) ∧ w = w' := by
  obtain ⟨c0, c1, c2, c3⟩ := h.cs
  have HM := Lib.hid (pEnd_eq r)
  clear h c1 c2 c3
  go_enter Tryz.func81, Tryz.ntmps81
  go_wp2_with fail
  refine (hasp_any r [47] _).mono ?_
  rintro e w1 ⟨rfl, rfl⟩
  generalize ([47] : B).isPrefixOf r = q at *
  cases q with
  | true =>
    go_wp2
    go_ret
    exact ⟨by rw [HM.out]; rfl, rfl⟩
  | false =>
    go_wp2_with fail
    refine (hasp_any r [62] _).mono ?_
    rintro e w1 ⟨rfl, rfl⟩
    generalize ([62] : B).isPrefixOf r = q at *
    go_wp2
    go_ret
    exact ⟨by rw [HM.out]; rfl, rfl⟩
end Go.Proofs.YtknggeplnffegaaGreatDoor
