/- The law StampBack, walked. -/
import Derived.Test.YtlmjopembcifiaaDoorStAwake
namespace Go.Proofs.YtlmjopembcifiaaDoor
open Go.ChangeShapes Go.WideShapes Go.ChangeAt Go.RowKit
open Civ
/-! What is written is parsed (plain mathematics). -/
theorem digit_is (m : Nat) (h : m < 10) : [48, 49, 50, 51, 52, 53, 54, 55, 56, 57].contains (UInt8.ofNat (48 + m)) = true ∧ (UInt8.ofNat (48 + m)).toNat = 48 + m := by
  have : m = 0 ∨ m = 1 ∨ m = 2 ∨ m = 3 ∨ m = 4 ∨ m = 5 ∨ m = 6 ∨ m = 7 ∨ m = 8 ∨ m = 9 := by omega
  rcases this with rfl | rfl | rfl | rfl | rfl | rfl | rfl | rfl | rfl | rfl <;> decide
theorem rnum_dig (k : Nat) (a : Int) (n : Nat) (r : List UInt8) : rnum k a (dig k n ++ r) = some (a * 10 ^ k + ((n % 10 ^ k : Nat) : Int), r) := by
  induction k generalizing a with
  | zero => simp [rnum, dig, Nat.mod_one]
  | succ k ih =>
    have hm : n / 10 ^ k % 10 < 10 := Nat.mod_lt _ (by omega)
    obtain ⟨h1, h2⟩ := digit_is _ hm
    rw [dig_front, List.cons_append, rnum, rsign_cons, if_pos h1]
    simp only []
    rw [ih, h2]
    have e := Nat.mod_mul (x := n) (a := 10 ^ k) (b := 10)
    rw [Nat.pow_succ, e]
    have : (a * 10 + (((48 + n / 10 ^ k % 10 : Nat) : Int) - 48)) * 10 ^ k = a * 10 ^ (k + 1) + (10 : Int) ^ k * ((n / 10 ^ k % 10 : Nat) : Int) := by
      rw [show (((48 + n / 10 ^ k % 10 : Nat) : Int) - 48) = ((n / 10 ^ k % 10 : Nat) : Int) by omega, Int.add_mul, Int.pow_succ, Int.mul_comm ((n / 10 ^ k % 10 : Nat) : Int), Int.mul_assoc a, Int.mul_comm 10]
    rw [this]
    congr 2
    push_cast
    omega
theorem rnum_int (k : Nat) (n : Int) (r : List UInt8) (h0 : 0 ≤ n) (h1 : n < 10 ^ k) : rnum k 0 (dig k n.toNat ++ r) = some (n, r) := by
  have h2 : n.toNat < 10 ^ k := by
    have : ((n.toNat : Nat) : Int) < ((10 ^ k : Nat) : Int) := by rw [Int.toNat_of_nonneg h0]; exact_mod_cast h1
    exact_mod_cast this
  rw [rnum_dig, Nat.mod_eq_of_lt h2]
  simp; omega
/-- a day and time, written, is read -/
theorem rciv_txt (y m d h i s : Int) (r : List UInt8) (b : UInt8) (hb : b = 84 ∨ b = 116) (hy : 0 ≤ y ∧ y < 10000) (hm : 0 ≤ m ∧ m < 100) (hd : 0 ≤ d ∧ d < 100) (hh : 0 ≤ h ∧ h < 100) (hi : 0 ≤ i ∧ i < 100) (hs : 0 ≤ s ∧ s < 100) :
    rciv (dig 4 y.toNat ++ ([45] ++ (dig 2 m.toNat ++ ([45] ++ (dig 2 d.toNat ++ ([b] ++ (dig 2 h.toNat ++ ([58] ++ (dig 2 i.toNat ++ ([58] ++ (dig 2 s.toNat ++ r))))))))))) = some ((y, m, d, h, i, s), r) := by
  have s1 : ∀ l, rsign [45] ([45] ++ l) = some (45, l) := fun _ => rfl
  have s2 : ∀ l, rsign [84, 116] ([b] ++ l) = some (b, l) := fun _ => by rcases hb with rfl | rfl <;> rfl
  have s3 : ∀ l, rsign [58] ([58] ++ l) = some (58, l) := fun _ => rfl
  simp only [rciv, rnum_int 4 y _ hy.1 hy.2, rnum_int 2 m _ hm.1 hm.2, rnum_int 2 d _ hd.1 hd.2, rnum_int 2 h _ hh.1 hh.2, rnum_int 2 i _ hi.1 hi.2, rnum_int 2 s _ hs.1 hs.2, Option.bind_some, s1, s2, s3]
theorem sec_at (t : Int) (h : Day (t / 86400)) : sec (yr (t / 86400)) (mo (t / 86400)) (dy (t / 86400)) (t % 86400 / 3600) (t % 3600 / 60) (t % 60) = t := by
  unfold sec; rw [h.2]; omega
theorem tm_at (t : Int) : tmB (t % 86400 / 3600) (t % 3600 / 60) (t % 60) = true := by
  unfold tmB; simp; omega
theorem rparse_gen (t : Int) (h : Day (t / 86400)) (b : UInt8) (hb : b = 84 ∨ b = 116) (r r2 : List UInt8) (z : Int) (hf : rfrac r = some r2) (hz : rzone r2 = some (z, [])) :
    rparse (dig 4 (yr (t / 86400)).toNat ++ ([45] ++ (dig 2 (mo (t / 86400)).toNat ++ ([45] ++ (dig 2 (dy (t / 86400)).toNat ++ ([b] ++ (dig 2 (t % 86400 / 3600).toNat ++ ([58] ++ (dig 2 (t % 3600 / 60).toNat ++ ([58] ++ (dig 2 (t % 60).toNat ++ r))))))))))) = some (t - z) := by
  obtain ⟨b1, b2, b3, b4, b5, b6⟩ := day_bd h
  have hr := rciv_txt (yr (t / 86400)) (mo (t / 86400)) (dy (t / 86400)) (t % 86400 / 3600) (t % 3600 / 60) (t % 60) r b hb (by omega) (by omega) (by omega) (by omega) (by omega) (by omega)
  have hm := may_iff.2 ⟨h.1, tm_at t⟩
  have hs := sec_at t h
  unfold rparse rread
  rw [hr]
  simp only [Option.bind_some, hf, hz, if_true, hm, hs]
theorem rparse_txt (t : Int) (h : Day (t / 86400)) : rparse (txt t) = some t := by
  have := rparse_gen t h 84 (Or.inl rfl) [90] [90] 0 rfl rfl
  simpa [txt, clk] using this
/-- a day and time's second tells it -/
theorem cv_sec {y m d h i s : Int} (k : okP y m d) (kt : tmB h i s = true) : cv (sec y m d h i s) = civ y m d h i s ∧ inCal (sec y m d h i s) := by
  obtain ⟨a1, a2, a3, a4, a5, a6⟩ := tm_bd kt
  obtain ⟨o1, o2⟩ := ord_bd k
  have e1 : sec y m d h i s / 86400 = ord y m d := by unfold sec; omega
  obtain ⟨f1, f2, f3⟩ := ymd_of (n := sec y m d h i s / 86400) k e1.symm
  refine ⟨?_, ?_⟩
  · show civ _ _ _ _ _ _ = _
    rw [f1, f2, f3, show sec y m d h i s % 86400 / 3600 = h by unfold sec; omega, show sec y m d h i s % 3600 / 60 = i by unfold sec; omega, show sec y m d h i s % 60 = s by unfold sec; omega]
  · unfold inCal sec; omega
set_option maxHeartbeats 4000000 in
theorem walkBack (y m d h i s t : Int) (w : World) (t0 : -9223372036854775808 ≤ t) (t1 : t ≤ 9223372036854775807) (htab : Tab w) :
    Calls Tryd.prog 6 #[civ y m d h i s, .int .i64 t] w fun e w' => e = .returned (.bool true) ∧ Kept w w' := by
  have HT := Lib.hid htab; clear htab
  have tl : (txt t).length = 20 := txt_length t
  by_cases hc : okP y m d ∧ tmB h i s = true
  · obtain ⟨ec, ei⟩ := cv_sec hc.1 hc.2
    have HC := Lib.hid hc; clear hc
    have EI := Lib.hid ei; clear ei
    have EC := Lib.hid ec; clear ec
    go_enter Tryd.func6, Tryd.ntmps6
    go_wp2_with fail
    refine (awake_yes _ (((Kept.refl w).alloc _).tab' HT.out)).mono ?_
    rintro e w1 ⟨rfl, k1⟩
    have c0 := k1.new 0 rfl
    have c1 := k1.new 1 rfl
    have c2 := k1.new 2 rfl
    have c3 := k1.new 3 rfl
    have c4 := k1.new 4 rfl
    have c5 := k1.new 5 rfl
    go_wp2_with fail
    refine (of_yes y m d h i s _ HC.out.1 HC.out.2).mono ?_
    rintro e w2 ⟨rfl, k2⟩
    go_wp2_with fail
    refine (at_yes _ _ EI.out).mono ?_
    rintro e w3 ⟨_, rfl, k3⟩
    rw [EC.out]
    have kk := (k1.trans k2).trans k3
    clear c0 c1 c2 c3 c4 c5
    have c0 := kk.new2 0 rfl
    have c1 := kk.new2 1 rfl
    have c2 := kk.new2 2 rfl
    have c3 := kk.new2 3 rfl
    have c4 := kk.new2 4 rfl
    have c5 := kk.new2 5 rfl
    go_wp2_with fail
    clear c0 c1 c2 c3 c4 c5
    have KB := Lib.hid (kk.back.alloc (.cells #[.int .i64 y, .int .i64 m, .int .i64 d, .int .i64 h, .int .i64 i, .int .i64 s] 23))
    clear k1 k2 k3 kk
    by_cases hi : inCal t
    · refine (text_yes t _ hi (KB.out.tab' HT.out)).mono ?_
      rintro e w4 ⟨hday, rfl, k4⟩
      have hp4 := Lib.hid (rparse_txt t hday)
      go_wp2_with fail
      refine (parse_any (txt t) _).mono ?_
      intro e w5 hp
      rw [hp4.out] at hp
      obtain ⟨rfl, k5⟩ := hp
      go_wp2
      go_ret
      exact ⟨rfl, KB.out.trans (k4.trans k5)⟩
    · refine (text_not t _ t0 t1 hi).mono ?_
      rintro e w4 ⟨rfl, k4⟩
      go_wp2
      go_ret
      exact ⟨rfl, KB.out.trans k4⟩
  · have HC := Lib.hid hc; clear hc
    go_enter Tryd.func6, Tryd.ntmps6
    go_wp2_with fail
    refine (awake_yes _ (((Kept.refl w).alloc _).tab' HT.out)).mono ?_
    rintro e w1 ⟨rfl, k1⟩
    have c0 := k1.new 0 rfl
    have c1 := k1.new 1 rfl
    have c2 := k1.new 2 rfl
    have c3 := k1.new 3 rfl
    have c4 := k1.new 4 rfl
    have c5 := k1.new 5 rfl
    go_wp2_with fail
    refine (of_not y m d h i s _ HC.out).mono ?_
    rintro e w2 ⟨rfl, k2⟩
    go_wp2_with fail
    clear c0 c1 c2 c3 c4 c5
    have KB := Lib.hid (k1.back.trans k2)
    clear k1 k2
    by_cases hi : inCal t
    · refine (text_yes t _ hi (KB.out.tab' HT.out)).mono ?_
      rintro e w4 ⟨hday, rfl, k4⟩
      have hp4 := Lib.hid (rparse_txt t hday)
      go_wp2_with fail
      refine (parse_any (txt t) _).mono ?_
      intro e w5 hp
      rw [hp4.out] at hp
      obtain ⟨rfl, k5⟩ := hp
      go_wp2
      go_ret
      exact ⟨rfl, KB.out.trans (k4.trans k5)⟩
    · refine (text_not t _ t0 t1 hi).mono ?_
      rintro e w4 ⟨rfl, k4⟩
      go_wp2
      go_ret
      exact ⟨rfl, KB.out.trans k4⟩
end Go.Proofs.YtlmjopembcifiaaDoor
