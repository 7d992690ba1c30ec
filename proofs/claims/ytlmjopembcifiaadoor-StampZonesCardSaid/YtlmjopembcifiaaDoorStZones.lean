/- The law StampZones, walked. -/
import Derived.Test.YtlmjopembcifiaaDoorStBack
import Derived.Test.YtlmjopembcifiaaDoorStRefT
import Derived.Deep.RegionHeld3
namespace Go.Proofs.YtlmjopembcifiaaDoor
open Go.ChangeShapes Go.WideShapes Go.ChangeAt Go.RowKit
open Civ
/-! Zones (plain mathematics). -/
theorem rzone_at (b : UInt8) (hb : b = 43 ∨ b = 45) (h m : Int) (h0 : 0 ≤ h) (h1 : h ≤ 23) (m0 : 0 ≤ m) (m1 : m ≤ 59) :
    rzone (b :: (dig 2 h.toNat ++ ([58] ++ dig 2 m.toNat))) = some (if b = 45 then -(h * 3600 + m * 60) else h * 3600 + m * 60, []) := by
  have s1 : ∀ l, rsign [90, 122, 43, 45] (b :: l) = some (b, l) := fun l => by rcases hb with rfl | rfl <;> rfl
  have s2 : ¬ (b = 90 ∨ b = 122) := by rcases hb with rfl | rfl <;> decide
  have s3 : ∀ l, rsign [58] ([58] ++ l) = some (58, l) := fun _ => rfl
  have r1 := rnum_int 2 h ([58] ++ dig 2 m.toNat) h0 (by omega)
  have r2 := rnum_int 2 m [] m0 (by omega)
  rw [List.append_nil] at r2
  have ht : tmB h m 0 = true := by unfold tmB; simp; omega
  simp only [rzone, s1, Option.bind_some, if_neg s2, r1, s3, r2, ht, if_true]
theorem rfrac_no (b : UInt8) (r : List UInt8) (h : b ≠ 46) : rfrac (b :: r) = some (b :: r) := by rw [rfrac, if_neg h]
theorem dig2 (k : Nat) : dig 2 k = [UInt8.ofNat (48 + k / 10 % 10), UInt8.ofNat (48 + k % 10)] := rfl
theorem rfrac_two (k : Nat) (b : UInt8) (r : List UInt8) (hb : digs.contains b = false) : rfrac (46 :: (dig 2 k ++ b :: r)) = some (b :: r) := by
  obtain ⟨p1, _⟩ := digit_is (k / 10 % 10) (by omega)
  obtain ⟨p2, _⟩ := digit_is (k % 10) (by omega)
  rw [rfrac, if_pos rfl, dig2]
  have e1 : rnum 1 0 ([UInt8.ofNat (48 + k / 10 % 10), UInt8.ofNat (48 + k % 10)] ++ b :: r) = some (0 * 10 + (((UInt8.ofNat (48 + k / 10 % 10)).toNat : Int) - 48), UInt8.ofNat (48 + k % 10) :: b :: r) := by
    rw [List.cons_append, rnum, rsign_cons, if_pos p1]; rfl
  rw [e1]
  simp only [Option.map_some, Lib.trimLeftS]
  rw [List.dropWhile_cons_of_pos (by exact p2), List.dropWhile_cons_of_neg (by rw [hb]; simp)]
noncomputable def tA (t : Int) : List UInt8 := dig 4 (yr (t / 86400)).toNat ++ ([45] ++ (dig 2 (mo (t / 86400)).toNat ++ ([45] ++ dig 2 (dy (t / 86400)).toNat)))
noncomputable def tC (t : Int) : List UInt8 := dig 2 (t % 86400 / 3600).toNat ++ ([58] ++ (dig 2 (t % 3600 / 60).toNat ++ ([58] ++ dig 2 (t % 60).toNat)))
theorem tA_length (t : Int) : (tA t).length = 10 := by simp [tA, dig_length]
theorem tC_length (t : Int) : (tC t).length = 8 := by simp [tC, dig_length]
theorem txt_AC (t : Int) : txt t = tA t ++ (84 :: (tC t ++ [90])) := by simp [txt, clk, tA, tC]
theorem rparse_AC (t : Int) (h : Day (t / 86400)) (b : UInt8) (hb : b = 84 ∨ b = 116) (r r2 : List UInt8) (z : Int) (hf : rfrac r = some r2) (hz : rzone r2 = some (z, [])) :
    rparse (tA t ++ (b :: (tC t ++ r))) = some (t - z) := by
  have := rparse_gen t h b hb r r2 z hf hz
  simpa [tA, tC] using this
/-- the parts of a text, and the three texts made of them -/
theorem zone_facts (t h m k : Int) (hd : Day (t / 86400)) (h0 : 0 ≤ h) (h1 : h ≤ 23) (m0 : 0 ≤ m) (m1 : m ≤ 59) :
    ∃ (S PA PB PC ZB : ByteArray) (L1 L2 L3 : List UInt8), (⟨(txt t).toArray⟩ : ByteArray) = S ∧ S.size = 20 ∧ S.extract 0 19 = PA ∧ S.extract 0 10 = PB ∧ S.extract 11 19 = PC ∧ PA.size = 19 ∧ PB.size = 10 ∧ PC.size = 8 ∧
      (⟨(dig 2 h.toNat).toArray⟩ ++ ⟨#[58]⟩ ++ ⟨(dig 2 m.toNat).toArray⟩ : ByteArray) = ZB ∧ ZB.size = 5 ∧
      PA ++ ⟨#[43]⟩ ++ ZB = ⟨L1.toArray⟩ ∧ PB ++ ⟨#[116]⟩ ++ PC ++ ⟨#[46]⟩ ++ ⟨(dig 2 k.toNat).toArray⟩ ++ ⟨#[45]⟩ ++ ZB = ⟨L2.toArray⟩ ∧ PA ++ ⟨#[46, 48, 122]⟩ = ⟨L3.toArray⟩ ∧
      rparse L1 = some (t - (h * 3600 + m * 60)) ∧ rparse L2 = some (t + (h * 3600 + m * 60)) ∧ rparse L3 = some t := by
  have la := tA_length t
  have lc := tC_length t
  have ea : ∀ x y, (ByteArray.mk (txt t).toArray).extract x y = ⟨(((tA t ++ (84 :: (tC t ++ [90]))).drop x).take (y - x)).toArray⟩ := fun x y => by rw [extract_mk, txt_AC]
  have e1 : (ByteArray.mk (txt t).toArray).extract 0 19 = ⟨(tA t ++ (84 :: tC t)).toArray⟩ := by
    rw [ea]; congr 2
  have e2 : (ByteArray.mk (txt t).toArray).extract 0 10 = ⟨(tA t).toArray⟩ := by
    rw [ea]; congr 2
  have e3 : (ByteArray.mk (txt t).toArray).extract 11 19 = ⟨(tC t).toArray⟩ := by
    rw [ea]; congr 2
  have dl : ∀ k n, (dig k n).length = k := dig_length
  refine ⟨_, _, _, _, _, tA t ++ (84 :: (tC t ++ (43 :: (dig 2 h.toNat ++ ([58] ++ dig 2 m.toNat))))), tA t ++ (116 :: (tC t ++ (46 :: (dig 2 k.toNat ++ 45 :: (dig 2 h.toNat ++ ([58] ++ dig 2 m.toNat)))))), tA t ++ (84 :: (tC t ++ [46, 48, 122])), rfl, ?_, e1, e2, e3, ?_, ?_, ?_, rfl, ?_, ?_, ?_, ?_, ?_, ?_, ?_⟩
  · show (txt t).toArray.size = 20; simp [txt_length]
  · show (tA t ++ (84 :: tC t)).toArray.size = 19; simp [la, lc]
  · show (tA t).toArray.size = 10; simp [la]
  · show (tC t).toArray.size = 8; simp [lc]
  · simp [ByteArray.size_mk', dl]
  · apply ByteArray.ext; simp [ByteArray.data_append]
  · apply ByteArray.ext; simp [ByteArray.data_append]
  · apply ByteArray.ext; simp [ByteArray.data_append]
  · exact rparse_AC t hd 84 (Or.inl rfl) _ _ _ (rfrac_no 43 _ (by decide)) (rzone_at 43 (Or.inl rfl) h m h0 h1 m0 m1)
  · have := rparse_AC t hd 116 (Or.inr rfl) _ _ _ (rfrac_two k.toNat 45 (dig 2 h.toNat ++ ([58] ++ dig 2 m.toNat)) (by decide)) (rzone_at 45 (Or.inr rfl) h m h0 h1 m0 m1)
    rw [this, if_pos rfl]
    congr 1; omega
  · have := rparse_AC t hd 84 (Or.inl rfl) [46, 48, 122] [122] 0 rfl rfl
    rw [this]; simp
theorem Kept.keep {W x x' : World} (k : Kept x x') (H : Kept W x) : Kept W x' := H.trans k
set_option maxRecDepth 100000 in
set_option maxHeartbeats 4000000 in
theorem walkZones_yes (t h m k : Int) (w : World) (htab : Tab w) (hi : inCal t) (h0 : 0 ≤ h) (h1 : h ≤ 23) (m0 : 0 ≤ m) (m1 : m ≤ 59) (k0 : 0 ≤ k) (k1 : k ≤ 99) :
    Calls Tryd.prog 8 #[.int .i64 t, .int .i64 h, .int .i64 m, .int .i64 k] w fun e w' => e = .returned (.bool true) ∧ Kept w w' := by
  have HT := Lib.hid htab; clear htab
  have hi1 := hi.1
  have hi2 := hi.2
  have HI := Lib.hid hi; clear hi
  have dl : ∀ k n, (dig k n).length = k := dig_length
  have d1 : decide (h < 0) = false := decide_eq_false (by omega)
  have d2 : decide (23 < h) = false := decide_eq_false (by omega)
  have d3 : decide (m < 0) = false := decide_eq_false (by omega)
  have d4 : decide (59 < m) = false := decide_eq_false (by omega)
  have d5 : decide (k < 0) = false := decide_eq_false (by omega)
  have d6 : decide (99 < k) = false := decide_eq_false (by omega)
  go_enter Tryd.func8, Tryd.ntmps8
  go_wp2_with fail
  refine (awake_yes _ HT.out).mono ?_
  rintro e w1 ⟨rfl, q1⟩
  go_wp2_with fail
  refine (text_yes t _ HI.out (q1.tab' HT.out)).mono ?_
  rintro e w2 ⟨hday, rfl, q2⟩
  obtain ⟨S, PA, PB, PC, ZB, L1, L2, L3, e1, s1, x1, x2, x3, sa, sb, sc, ez, sz, f1, f2, f3, r1, r2, r3⟩ := zone_facts t h m k hday h0 h1 m0 m1
  rw [e1]
  clear e1 hday
  have KQ := Lib.hid (q1.trans q2); clear q1 q2
  have F1 := Lib.hid f1; clear f1
  have F2 := Lib.hid f2; clear f2
  have F3 := Lib.hid f3; clear f3
  have R1 := Lib.hid r1; clear r1
  have R2 := Lib.hid r2; clear r2
  have R3 := Lib.hid r3; clear r3
  have EZ := Lib.hid ez; clear ez
  have l1 : (S.size : Int) = 20 := by rw [s1]; rfl
  go_wp2_with fail
  refine (rdigits_2 h _ h0 (by omega)).mono ?_
  rintro e w3 ⟨rfl, rfl⟩
  go_wp2_with fail
  refine (rdigits_2 m _ m0 (by omega)).mono ?_
  rintro e w3 ⟨rfl, rfl⟩
  go_wp2_with fail
  rw [EZ.out]
  rw [F1.out]
  refine (parse_any L1 _).mono ?_
  intro e w3 hp
  rw [R1.out] at hp
  obtain ⟨rfl, k3⟩ := hp
  go_wp2_with fail
  go_region_held3 (fun x => Kept w3 x)
    (first | exact Kept.keep (by assumption) (by assumption) | assumption | exact (Kept.refl w3).drew)
    (first | (go_at_call 24; refine (rdigits_2 _ _ (by omega) (by omega)).mono ?_; rintro e w' ⟨rfl, rfl⟩)
           | (go_at_call 22; rw [F2.out]; refine (parse_any L2 _).mono ?_; intro e w' hp; rw [R2.out] at hp; obtain ⟨rfl, hk'⟩ := hp))
  have hK := ‹Kept w3 _›
  go_wp2_with fail
  rw [F3.out]
  refine (parse_any L3 _).mono ?_
  intro e w5 hp
  rw [R3.out] at hp
  obtain ⟨rfl, k5⟩ := hp
  have KK := Lib.hid (KQ.out.trans ((k3.trans hK).trans k5))
  clear k3 hK k5
  have g1 : (t - (h * 3600 + m * 60) == t - (3600 * h + 60 * m)) = true := by simp; omega
  have g2 : (t + (h * 3600 + m * 60) == t + (3600 * h + 60 * m)) = true := by simp; omega
  go_wp2
  go_ret
  exact ⟨rfl, KK.out⟩
set_option maxHeartbeats 4000000 in
theorem walkZones (t h m k : Int) (w : World) (t0 : -9223372036854775808 ≤ t) (t1 : t ≤ 9223372036854775807) (_ : -9223372036854775808 ≤ h) (_ : h ≤ 9223372036854775807) (_ : -9223372036854775808 ≤ m) (_ : m ≤ 9223372036854775807) (_ : -9223372036854775808 ≤ k) (_ : k ≤ 9223372036854775807) (htab : Tab w) :
    Calls Tryd.prog 8 #[.int .i64 t, .int .i64 h, .int .i64 m, .int .i64 k] w fun e w' => e = .returned (.bool true) ∧ Kept w w' := by
  by_cases hi : inCal t
  · by_cases c0 : h < 0
    · have HI := Lib.hid hi; clear hi
      have HT := Lib.hid htab; clear htab
      go_enter Tryd.func8, Tryd.ntmps8
      go_wp2_with fail
      refine (awake_yes _ HT.out).mono ?_
      rintro e w1 ⟨rfl, q1⟩
      go_wp2_with fail
      refine (text_yes t _ HI.out (q1.tab' HT.out)).mono ?_
      rintro e w2 ⟨_, rfl, q2⟩
      go_wp2
      go_ret
      exact ⟨rfl, q1.trans q2⟩
    · by_cases c1 : 23 < h
      · have d0 : decide (h < 0) = false := decide_eq_false c0
        clear c0
        have HI := Lib.hid hi; clear hi
        have HT := Lib.hid htab; clear htab
        go_enter Tryd.func8, Tryd.ntmps8
        go_wp2_with fail
        refine (awake_yes _ HT.out).mono ?_
        rintro e w1 ⟨rfl, q1⟩
        go_wp2_with fail
        refine (text_yes t _ HI.out (q1.tab' HT.out)).mono ?_
        rintro e w2 ⟨_, rfl, q2⟩
        go_wp2
        go_ret
        exact ⟨rfl, q1.trans q2⟩
      · by_cases c2 : m < 0
        · have d0 : decide (h < 0) = false := decide_eq_false c0
          have d1 : decide (23 < h) = false := decide_eq_false c1
          clear c0 c1
          have HI := Lib.hid hi; clear hi
          have HT := Lib.hid htab; clear htab
          go_enter Tryd.func8, Tryd.ntmps8
          go_wp2_with fail
          refine (awake_yes _ HT.out).mono ?_
          rintro e w1 ⟨rfl, q1⟩
          go_wp2_with fail
          refine (text_yes t _ HI.out (q1.tab' HT.out)).mono ?_
          rintro e w2 ⟨_, rfl, q2⟩
          go_wp2
          go_ret
          exact ⟨rfl, q1.trans q2⟩
        · by_cases c3 : 59 < m
          · have d0 : decide (h < 0) = false := decide_eq_false c0
            have d1 : decide (23 < h) = false := decide_eq_false c1
            have d2 : decide (m < 0) = false := decide_eq_false c2
            clear c0 c1 c2
            have HI := Lib.hid hi; clear hi
            have HT := Lib.hid htab; clear htab
            go_enter Tryd.func8, Tryd.ntmps8
            go_wp2_with fail
            refine (awake_yes _ HT.out).mono ?_
            rintro e w1 ⟨rfl, q1⟩
            go_wp2_with fail
            refine (text_yes t _ HI.out (q1.tab' HT.out)).mono ?_
            rintro e w2 ⟨_, rfl, q2⟩
            go_wp2
            go_ret
            exact ⟨rfl, q1.trans q2⟩
          · by_cases c4 : k < 0
            · have d0 : decide (h < 0) = false := decide_eq_false c0
              have d1 : decide (23 < h) = false := decide_eq_false c1
              have d2 : decide (m < 0) = false := decide_eq_false c2
              have d3 : decide (59 < m) = false := decide_eq_false c3
              clear c0 c1 c2 c3
              have HI := Lib.hid hi; clear hi
              have HT := Lib.hid htab; clear htab
              go_enter Tryd.func8, Tryd.ntmps8
              go_wp2_with fail
              refine (awake_yes _ HT.out).mono ?_
              rintro e w1 ⟨rfl, q1⟩
              go_wp2_with fail
              refine (text_yes t _ HI.out (q1.tab' HT.out)).mono ?_
              rintro e w2 ⟨_, rfl, q2⟩
              go_wp2
              go_ret
              exact ⟨rfl, q1.trans q2⟩
            · by_cases c5 : 99 < k
              · have d0 : decide (h < 0) = false := decide_eq_false c0
                have d1 : decide (23 < h) = false := decide_eq_false c1
                have d2 : decide (m < 0) = false := decide_eq_false c2
                have d3 : decide (59 < m) = false := decide_eq_false c3
                have d4 : decide (k < 0) = false := decide_eq_false c4
                clear c0 c1 c2 c3 c4
                have HI := Lib.hid hi; clear hi
                have HT := Lib.hid htab; clear htab
                go_enter Tryd.func8, Tryd.ntmps8
                go_wp2_with fail
                refine (awake_yes _ HT.out).mono ?_
                rintro e w1 ⟨rfl, q1⟩
                go_wp2_with fail
                refine (text_yes t _ HI.out (q1.tab' HT.out)).mono ?_
                rintro e w2 ⟨_, rfl, q2⟩
                go_wp2
                go_ret
                exact ⟨rfl, q1.trans q2⟩
              · exact walkZones_yes t h m k w htab hi (by omega) (by omega) (by omega) (by omega) (by omega) (by omega)
  · have HI := Lib.hid hi; clear hi
    have HT := Lib.hid htab; clear htab
    go_enter Tryd.func8, Tryd.ntmps8
    go_wp2_with fail
    refine (awake_yes _ HT.out).mono ?_
    rintro e w1 ⟨rfl, q1⟩
    go_wp2_with fail
    refine (text_not t _ t0 t1 HI.out).mono ?_
    rintro e w2 ⟨rfl, q2⟩
    go_wp2
    go_ret
    exact ⟨rfl, q1.trans q2⟩
end Go.Proofs.YtlmjopembcifiaaDoor
