/- The law StampParses, walked. -/
import Derived.Test.YtlmjopembcifiaaDoorStRefQ
import Derived.Test.YtlmjopembcifiaaDoorStAwake
namespace Go.Proofs.YtlmjopembcifiaaDoor
open Go.ChangeShapes Go.WideShapes Go.ChangeAt Go.RowKit
open Civ
theorem sg_bad {l those : List UInt8} {c : UInt8} {k : Nat} (e : l.drop k = c :: l.drop (k + 1)) (h : those.contains c = false) (hs : (rsign those (l.drop k)).isSome = true) : False := by
  rw [e] at hs; exact sg_none h hs
theorem sg_ok {l those : List UInt8} {c : UInt8} {k : Nat} (e : l.drop k = c :: l.drop (k + 1)) (h : those.contains c = true) : (rsign those (l.drop k)).isSome = true := by
  rw [e, rsign_cons, if_pos h]; rfl
theorem u8_nP {c : UInt8} {k : Nat} (hk : k < 256) (h : c ≠ UInt8.ofNat k) : ¬ (c.toNat : Int) = (k : Int) := fun hh => h ((u8_eq c k hk).1 hh)
theorem one_no {c b : UInt8} (h : c ≠ b) : [b].contains c = false := by simpa using h
theorem two_no {c a b : UInt8} (h1 : c ≠ a) (h2 : c ≠ b) : [a, b].contains c = false := by simp [h1, h2]
set_option maxHeartbeats 2000000 in
theorem rrparse_any (l : List UInt8) (hl : l.length ≤ 100) (w : World) : Calls Tryd.prog 23 #[.string ⟨l.toArray⟩] w (ParsePost (rparse l) w) := by
  by_cases h20 : l.length < 20
  · have HO := Lib.hid (short_none h20)
    have h20' : (l.length : Int) < 20 := by omega
    go_enter Tryd.func23, Tryd.ntmps23
    go_wp2
    go_ret2
    rw [HO.out]
    exact ⟨rfl, Kept.refl w⟩
  have d20 : decide ((l.length : Int) < 20) = false := decide_eq_false (by omega)
  have l1 : (20 : Int) ≤ (l.length : Int) := by omega
  obtain ⟨a4, e4⟩ := drop_cons (l := l) (k := 4) (by omega)
  obtain ⟨a7, e7⟩ := drop_cons (l := l) (k := 7) (by omega)
  obtain ⟨a10, e10⟩ := drop_cons (l := l) (k := 10) (by omega)
  obtain ⟨a13, e13⟩ := drop_cons (l := l) (k := 13) (by omega)
  obtain ⟨a16, e16⟩ := drop_cons (l := l) (k := 16) (by omega)
  obtain ⟨a19, e19⟩ := drop_cons (l := l) (k := 19) (by omega)
  have x4 := fun hh => at_drop e4 hh
  have x7 := fun hh => at_drop e7 hh
  have x10 := fun hh => at_drop e10 hh
  have x13 := fun hh => at_drop e13 hh
  have x16 := fun hh => at_drop e16 hh
  have x19 := fun hh => at_drop e19 hh
  have E4 := Lib.hid e4; clear e4
  have E7 := Lib.hid e7; clear e7
  have E10 := Lib.hid e10; clear e10
  have E13 := Lib.hid e13; clear e13
  have E16 := Lib.hid e16; clear e16
  have E19 := Lib.hid e19; clear e19
  by_cases qa4 : a4 = 45
  rotate_left
  · have n : a4 ≠ 45 := qa4
    have ne : ¬ (a4.toNat : Int) = 45 := u8_nP (k := 45) (by omega) n
    have HO := Lib.hid (show rparse l = none from parse_signs (fun hs => sg_bad E4.out (one_no n) hs.1))
    clear n qa4
    go_enter Tryd.func23, Tryd.ntmps23
    go_wp2
    go_ret2
    rw [HO.out]
    exact ⟨rfl, Kept.refl w⟩
  subst qa4
  by_cases qa7 : a7 = 45
  rotate_left
  · have n : a7 ≠ 45 := qa7
    have ne : ¬ (a7.toNat : Int) = 45 := u8_nP (k := 45) (by omega) n
    have HO := Lib.hid (show rparse l = none from parse_signs (fun hs => sg_bad E7.out (one_no n) hs.2.1))
    clear n qa7
    go_enter Tryd.func23, Tryd.ntmps23
    go_wp2
    go_ret2
    rw [HO.out]
    exact ⟨rfl, Kept.refl w⟩
  subst qa7
  by_cases qa10 : a10 = 84 ∨ a10 = 116
  rotate_left
  · have n : a10 ≠ 84 ∧ a10 ≠ 116 := ⟨fun h => qa10 (Or.inl h), fun h => qa10 (Or.inr h)⟩
    have ne : ¬ (a10.toNat : Int) = 84 := u8_nP (k := 84) (by omega) n.1
    have ne2 : ¬ (a10.toNat : Int) = 116 := u8_nP (k := 116) (by omega) n.2
    have HO := Lib.hid (show rparse l = none from parse_signs (fun hs => sg_bad E10.out (two_no n.1 n.2) hs.2.2.1))
    clear n qa10
    go_enter Tryd.func23, Tryd.ntmps23
    go_wp2
    go_ret2
    rw [HO.out]
    exact ⟨rfl, Kept.refl w⟩
  have t10 : ((a10.toNat : Int) = 84) ∨ (¬ (a10.toNat : Int) = 84 ∧ (a10.toNat : Int) = 116) := by
    rcases qa10 with rfl | rfl
    · exact Or.inl rfl
    · exact Or.inr ⟨by decide, rfl⟩
  by_cases qa13 : a13 = 58
  rotate_left
  · have n : a13 ≠ 58 := qa13
    have ne : ¬ (a13.toNat : Int) = 58 := u8_nP (k := 58) (by omega) n
    have HO := Lib.hid (show rparse l = none from parse_signs (fun hs => sg_bad E13.out (one_no n) hs.2.2.2.1))
    clear n qa13 qa10
    rcases t10 with t | ⟨t, t2⟩
    · go_enter Tryd.func23, Tryd.ntmps23
      go_wp2
      go_ret2
      rw [HO.out]
      exact ⟨rfl, Kept.refl w⟩
    · go_enter Tryd.func23, Tryd.ntmps23
      go_wp2
      go_ret2
      rw [HO.out]
      exact ⟨rfl, Kept.refl w⟩
  subst qa13
  by_cases qa16 : a16 = 58
  rotate_left
  · have n : a16 ≠ 58 := qa16
    have ne : ¬ (a16.toNat : Int) = 58 := u8_nP (k := 58) (by omega) n
    have HO := Lib.hid (show rparse l = none from parse_signs (fun hs => sg_bad E16.out (one_no n) hs.2.2.2.2))
    clear n qa16 qa10
    rcases t10 with t | ⟨t, t2⟩
    · go_enter Tryd.func23, Tryd.ntmps23
      go_wp2
      go_ret2
      rw [HO.out]
      exact ⟨rfl, Kept.refl w⟩
    · go_enter Tryd.func23, Tryd.ntmps23
      go_wp2
      go_ret2
      rw [HO.out]
      exact ⟨rfl, Kept.refl w⟩
  subst qa16
  exact rparse_main l hl (by omega) w a10 a19 qa10 ⟨sg_ok E4.out rfl, sg_ok E7.out rfl, sg_ok E10.out (by rcases qa10 with rfl | rfl <;> rfl), sg_ok E13.out rfl, sg_ok E16.out rfl⟩ x4 x7 x10 x13 x16 x19 E19.out
set_option maxHeartbeats 2000000 in
theorem walkParses (s : ByteArray) (w : World) (htab : Tab w) : Calls Tryd.prog 5 #[.string s] w fun e w' => e = .returned (.bool true) ∧ Kept w w' := by
  have HT := Lib.hid htab; clear htab
  by_cases hl : 100 < s.size
  · have hl' : (100 : Int) < (s.size : Int) := by omega
    go_enter Tryd.func5, Tryd.ntmps5
    go_wp2_with fail
    refine (awake_yes _ HT.out).mono ?_
    rintro e w1 ⟨rfl, k1⟩
    go_wp2
    go_ret
    exact ⟨rfl, k1⟩
  · have es : s = ⟨s.data.toList.toArray⟩ := by cases s; simp
    have hlen : s.data.toList.length ≤ 100 := by show s.size ≤ 100; omega
    have hl' : decide ((100 : Int) < (s.size : Int)) = false := decide_eq_false (by omega)
    have P1 : ∃ (t n : Int), (∀ w, Calls Tryd.prog 22 #[.string s] w fun e w' => e = .returned (.tuple #[.int .i64 t, .int .i64 n]) ∧ Kept w w') ∧ (∀ w, Calls Tryd.prog 23 #[.string s] w fun e w' => e = .returned (.tuple #[.int .i64 t, .int .i64 n]) ∧ Kept w w') := by
      rw [es]
      rcases q : rparse s.data.toList with _ | t
      · refine ⟨0, 2, fun w => ?_, fun w => ?_⟩
        · have := parse_any s.data.toList w; rw [q] at this; exact this
        · have := rrparse_any s.data.toList hlen w; rw [q] at this; exact this
      · refine ⟨t, 0, fun w => ?_, fun w => ?_⟩
        · have := parse_any s.data.toList w; rw [q] at this; exact this
        · have := rrparse_any s.data.toList hlen w; rw [q] at this; exact this
    obtain ⟨t, n, A, B⟩ := P1
    have A' := Lib.hid A; clear A
    have B' := Lib.hid B; clear B
    clear es hlen
    go_enter Tryd.func5, Tryd.ntmps5
    go_wp2_with fail
    refine (awake_yes _ HT.out).mono ?_
    rintro e w1 ⟨rfl, k1⟩
    go_wp2_with fail
    refine (A'.out _).mono ?_
    rintro e w2 ⟨rfl, k2⟩
    go_wp2_with fail
    refine (B'.out _).mono ?_
    rintro e w3 ⟨rfl, k3⟩
    have KK := Lib.hid ((k1.trans k2).trans k3)
    clear k1 k2 k3
    go_wp2
    go_ret
    exact ⟨rfl, KK.out⟩
end Go.Proofs.YtlmjopembcifiaaDoor
