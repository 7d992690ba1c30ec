/- The law StampMails, walked. -/
import Derived.Test.YtlmjopembcifiaaDoorStAwake
import Derived.Deep.QuietTactic
import Derived.BigQuiet
namespace Go.Proofs.YtlmjopembcifiaaDoor
open Go.ChangeShapes Go.WideShapes Go.ChangeAt Go.RowKit
open Civ
/-- what stands ahead of the zone -/
noncomputable def mhd (u : Int) : List UInt8 :=
  nm dayNames ((u / 86400 + 4) % 7).toNat ++ [44] ++ [32] ++ dig 2 (dy (u / 86400)).toNat ++ [32] ++ nm monNames ((mo (u / 86400)).toNat - 1) ++ [32] ++ dig 4 (yr (u / 86400)).toNat ++ [32] ++ clk (u % 86400 / 3600).toNat (u % 3600 / 60).toNat (u % 60).toNat ++ [32]
theorem mtx_hd (u o : Int) : mtx u o = mhd u ++ offs o := by simp [mtx, mhd]
theorem mhd_length {u : Int} (h : Day (u / 86400)) : (mhd u).length = 26 := by
  obtain ⟨b1, b2, b3, b4, b5, b6⟩ := day_bd h
  simp [mhd, dig_length, clk_length, nm_day _ (show ((u / 86400 + 4) % 7).toNat < 7 by omega), nm_mon _ (show (mo (u / 86400)).toNat - 1 < 12 by omega)]
theorem ex0 {l r : List UInt8} (h : l.length = 26) : (ByteArray.mk (l ++ r).toArray).extract 0 26 = ⟨l.toArray⟩ := by
  rw [extract_mk]; simp [← h]
theorem ex26 {l r : List UInt8} (h : l.length = 26) (hr : r.length = 5) : (ByteArray.mk (l ++ r).toArray).extract 26 31 = ⟨r.toArray⟩ := by
  rw [extract_mk, List.drop_append_of_le_length (by omega), List.drop_of_length_le (by omega)]; simp [← hr]
theorem at26 {l r : List UInt8} {c : UInt8} (h : l.length = 26) (hx : 26 < (ByteArray.mk (l ++ c :: r).toArray).size) : (ByteArray.mk (l ++ c :: r).toArray)[26]'hx = c := by
  show (l ++ c :: r).toArray[26] = c
  rw [List.getElem_toArray, List.getElem_append_right (by omega)]
  simp [h]
theorem mail_facts {u : Int} (o : Int) (h : Day (u / 86400)) : ∃ S1 S2 H : ByteArray, (⟨(mtx u o).toArray⟩ : ByteArray) = S1 ∧ (⟨(mtx u 0).toArray⟩ : ByteArray) = S2 ∧ S1.size = 31 ∧ S2.size = 31 ∧ S1.extract 0 26 = H ∧ S2.extract 0 26 = H ∧ S2.extract 26 31 = ⟨#[43, 48, 48, 48, 48]⟩ ∧ (∀ hx : 26 < S1.size, S1[26]'hx = if o < 0 then 45 else 43) := by
  have hl := mhd_length h
  refine ⟨_, _, ⟨(mhd u).toArray⟩, rfl, rfl, ?_, ?_, ?_, ?_, ?_, ?_⟩
  · rw [mtx_hd]; show (mhd u ++ offs o).toArray.size = 31; simp [hl, offs_length]
  · rw [mtx_hd]; show (mhd u ++ offs 0).toArray.size = 31; simp [hl, offs_length]
  · rw [mtx_hd]; exact ex0 hl
  · rw [mtx_hd]; exact ex0 hl
  · rw [mtx_hd]; exact ex26 hl (offs_length 0)
  · intro hx
    have : mtx u o = mhd u ++ (if o < 0 then 45 else 43) :: (dig 2 (o.natAbs / 3600) ++ dig 2 (o.natAbs % 3600 / 60)) := by rw [mtx_hd]; simp [offs]
    have e : (⟨(mtx u o).toArray⟩ : ByteArray) = ⟨(mhd u ++ (if o < 0 then 45 else 43) :: (dig 2 (o.natAbs / 3600) ++ dig 2 (o.natAbs % 3600 / 60))).toArray⟩ := by rw [this]
    have hx' : 26 < (⟨(mhd u ++ (if o < 0 then 45 else 43) :: (dig 2 (o.natAbs / 3600) ++ dig 2 (o.natAbs % 3600 / 60))).toArray⟩ : ByteArray).size := by rw [← e]; exact hx
    have := at26 hl hx'
    simpa [e] using this
set_option maxRecDepth 100000 in
set_option maxHeartbeats 4000000 in
theorem walkMails_yes (t o : Int) (w : World) (h0 : -93599 ≤ o) (h1 : o ≤ 93599) (h : inCal (t + o)) (htab : Tab w) :
    Calls Tryd.prog 9 #[.int .i64 t, .int .i64 o] w fun e w' => e = .returned (.bool true) ∧ Kept w w' := by
  have HT := Lib.hid htab; clear htab
  have hc1 := h.1
  have hc2 := h.2
  have HC := Lib.hid h; clear h
  go_enter Tryd.func9, Tryd.ntmps9
  go_wp2_with fail
  refine (awake_yes _ HT.out).mono ?_
  rintro e w1 ⟨rfl, k1⟩
  go_wp2_with fail
  refine (mail_yes t o _ h0 h1 HC.out (k1.tab' HT.out)).mono ?_
  rintro e w2 ⟨hday, rfl, k2⟩
  have k12 := k1.trans k2
  obtain ⟨S1, S2, H, e1, e2, s1, s2, x1, x2, x3, x4⟩ := mail_facts o hday
  have E2 := Lib.hid e2; clear e2
  rw [e1]
  clear e1 hday
  have l1 : (S1.size : Int) = 31 := by rw [s1]; rfl
  have l2 : (S2.size : Int) = 31 := by rw [s2]; rfl
  go_wp2_with fail
  have hc' : inCal (t + o + 0) := by rw [Int.add_zero]; exact HC.out
  refine (mail_yes (t + o) 0 _ (by omega) (by omega) hc' (k12.tab' HT.out)).mono ?_
  rintro e w3 ⟨_, rfl, k3⟩
  rw [Int.add_zero, E2.out]
  have KK := Lib.hid (k12.trans k3)
  clear k1 k2 k3 k12
  by_cases hn : o < 0
  · have x5 : ∀ hx : 26 < S1.size, S1[26]'hx = 45 := fun hx => by rw [x4 hx, if_pos hn]
    clear x4
    go_wp2_with fail
    go_quiet (fail)
    go_wp2
    go_ret
    exact ⟨rfl, KK.out.drewN _⟩
  · have x5 : ∀ hx : 26 < S1.size, S1[26]'hx = 43 := fun hx => by rw [x4 hx, if_neg hn]
    have dn : decide (o < 0) = false := decide_eq_false hn
    clear x4 hn
    go_wp2_with fail
    go_quiet (fail)
    go_wp2
    go_ret
    exact ⟨rfl, KK.out.drewN _⟩
set_option maxHeartbeats 4000000 in
theorem walkMails (t o : Int) (w : World) (t0 : -9223372036854775808 ≤ t) (t1 : t ≤ 9223372036854775807) (_ : -9223372036854775808 ≤ o) (_ : o ≤ 9223372036854775807) (htab : Tab w) :
    Calls Tryd.prog 9 #[.int .i64 t, .int .i64 o] w fun e w' => e = .returned (.bool true) ∧ Kept w w' := by
  by_cases ho : o < -93599 ∨ 93599 < o
  · have HO := Lib.hid ho; clear ho
    have HT := Lib.hid htab; clear htab
    go_enter Tryd.func9, Tryd.ntmps9
    go_wp2_with fail
    refine (awake_yes _ HT.out).mono ?_
    rintro e w1 ⟨rfl, k1⟩
    go_wp2_with fail
    refine (mail_off t o _ HO.out).mono ?_
    rintro e w2 ⟨rfl, rfl⟩
    go_wp2
    go_ret
    exact ⟨rfl, k1⟩
  · have h0 : -93599 ≤ o := by omega
    have h1 : o ≤ 93599 := by omega
    clear ho
    by_cases h : inCal (t + o)
    · exact walkMails_yes t o w h0 h1 h htab
    · have HC := Lib.hid h; clear h
      have HT := Lib.hid htab; clear htab
      go_enter Tryd.func9, Tryd.ntmps9
      go_wp2_with fail
      refine (awake_yes _ HT.out).mono ?_
      rintro e w1 ⟨rfl, k1⟩
      go_wp2_with fail
      refine (mail_not t o _ h0 h1 t0 t1 HC.out).mono ?_
      rintro e w2 ⟨rfl, k2⟩
      go_wp2
      go_ret
      exact ⟨rfl, k1.trans k2⟩
end Go.Proofs.YtlmjopembcifiaaDoor
