/- Each sign is one of sixty-four, or, at the end, as many that stand for none as bytes are missing to three. -/
import Derived.Test.YtcfheljkefceeaaDoorBxAw
set_option linter.unusedSimpArgs false
set_option linter.unusedVariables false
namespace Go.Proofs.YtcfheljkefceeaaDoor
open Go.ChangeShapes Go.WideShapes Go.ChangeAt Go.RowKit
open Bx
theorem sg_range : ∀ n, n < 64 → (65 ≤ (sg n).toNat ∧ (sg n).toNat ≤ 90) ∨ (97 ≤ (sg n).toNat ∧ (sg n).toNat ≤ 122) ∨ (48 ≤ (sg n).toNat ∧ (sg n).toNat ≤ 57) ∨ (sg n).toNat = 43 ∨ (sg n).toNat = 47 := by decide +kernel
/-- where which signs stand -/
theorem raw_at {l : B} {i : Nat} {x : UInt8} (h : (raw l)[i]? = some x) : (i < (raw l).length - pad l ∧ ((65 ≤ x.toNat ∧ x.toNat ≤ 90) ∨ (97 ≤ x.toNat ∧ x.toNat ≤ 122) ∨ (48 ≤ x.toNat ∧ x.toNat ≤ 57) ∨ x.toNat = 43 ∨ x.toNat = 47)) ∨ ((raw l).length - pad l ≤ i ∧ x.toNat = 61) := by
  have hr : (raw l).length = (rawT l).length + pad l := by rw [raw_eq]; simp
  by_cases hi : i < (rawT l).length
  · rw [raw_eq, List.getElem?_append_left hi] at h
    obtain ⟨n, hn, rfl⟩ := rawT_ne l x (List.mem_of_getElem? h)
    exact Or.inl ⟨by omega, sg_range n hn⟩
  · rw [raw_eq, List.getElem?_append_right (by omega)] at h
    have := List.eq_of_mem_replicate (List.mem_of_getElem? h)
    exact Or.inr ⟨by omega, by rw [this]; rfl⟩
theorem pad_lt (l : B) : pad l < 3 := Nat.mod_lt _ (by decide)
theorem pad_le (l : B) : pad l ≤ (raw l).length := by rw [raw_eq]; simp
set_option maxRecDepth 100000 in
set_option maxHeartbeats 8000000 in
theorem signs13_walk (v : Value) (l : B) (w : World) (hB : BRd v l w) (hd : l.length ≤ maxLen) (hE : Env w) : Calls Tryd.prog 7 #[v] w fun e w' => e = .returned (.bool true) ∧ Kept w w' := by
  unfold maxLen at hd
  obtain ⟨g, c, hv⟩ := hB.slice
  subst hv
  have HB := Lib.hid hB
  clear hB
  go_enter Tryd.func7, Tryd.ntmps7
  go_wp2_with fail
  refine (awake13_any w hE).mono ?_
  rintro e x1 ⟨rfl, k1⟩
  have K1 := Lib.hid k1
  clear k1
  clear hE
  by_cases hs : 300 < (l.length : Int)
  · go_wp2
    go_ret
    exact ⟨rfl, K1.out⟩
  have hl : l.length ≤ 300 := by omega
  go_wp2_with fail
  refine (raw_any _ l x1 (HB.out.kept K1.out) (by omega)).mono ?_
  rintro e x2 ⟨rfl, k2⟩
  have K2 := Lib.hid (K1.out.trans k2)
  clear k2 K1
  have hp : (3 - (l.length : Int) % 3) % 3 = ((pad l : Nat) : Int) := by unfold pad; omega
  have HA := Lib.hid (fun i x => @raw_at l i x)
  have hp3 := pad_lt l
  have hpl := pad_le l
  have hrl := raw_le l
  have hpI : ((pad l : Nat) : Int) ≤ (raw l).length := by omega
  generalize raw l = s at *
  generalize pad l = p at *
  have hss : (ByteArray.mk s.toArray).size = s.length := List.size_toArray
  go_upto_block 0 with (fail)
  rw [hp]
  clear hp
  go_wp2_with fail
  go_loopw [6] (fun vi wr => ∃ i : Nat, i ≤ s.length ∧ vi = .int .i64 i ∧ Hid (Kept w wr)) (fun vi _ => s.length - (intOf vi).toNat)
  case atStart => exact ⟨0, Nat.zero_le _, rfl, K2⟩
  case round =>
    obtain ⟨i, hi, rfl, K2⟩ := hrel
    by_cases hlt : i < s.length
    · have hltI : (i : Int) < s.length := by omega
      obtain ⟨x, hx⟩ : ∃ x, s[i]? = some x := ⟨_, List.getElem?_eq_getElem hlt⟩
      have hat := byte_at s i x hx
      have hA := HA.out i x hx
      clear hx
      rcases hA with ⟨hp, h⟩ | ⟨hp, h⟩
      · have hpI2 : ¬ (s.length : Int) - p ≤ i := by omega
        rcases h with h | h | h | h | h
        · have b1 : (65 : Int) ≤ x.toNat := by omega
          have b2 : (x.toNat : Int) ≤ 90 := by omega
          clear h
          go_wp2
          go_roundw
          case rel => exact ⟨i + 1, hlt, by go_num, K2⟩
          case measure => simp [intOf]; omega
        · have b1 : (65 : Int) ≤ x.toNat := by omega
          have b2 : ¬ (x.toNat : Int) ≤ 90 := by omega
          have b3 : (97 : Int) ≤ x.toNat := by omega
          have b4 : (x.toNat : Int) ≤ 122 := by omega
          clear h
          go_wp2
          go_roundw
          case rel => exact ⟨i + 1, hlt, by go_num, K2⟩
          case measure => simp [intOf]; omega
        · have b1 : ¬ (65 : Int) ≤ x.toNat := by omega
          have b2 : ¬ (97 : Int) ≤ x.toNat := by omega
          have b3 : (48 : Int) ≤ x.toNat := by omega
          have b4 : (x.toNat : Int) ≤ 57 := by omega
          clear h
          go_wp2
          go_roundw
          case rel => exact ⟨i + 1, hlt, by go_num, K2⟩
          case measure => simp [intOf]; omega
        · have b1 : (x.toNat : Int) = 43 := by omega
          rw [UInt8.toNat_inj.1 (show x.toNat = (43 : UInt8).toNat by rw [show (43 : UInt8).toNat = 43 from rfl]; omega)] at hat
          clear h b1
          go_wp2
          go_roundw
          case rel => exact ⟨i + 1, hlt, by go_num, K2⟩
          case measure => simp [intOf]; omega
        · have b1 : (x.toNat : Int) = 47 := by omega
          rw [UInt8.toNat_inj.1 (show x.toNat = (47 : UInt8).toNat by rw [show (47 : UInt8).toNat = 47 from rfl]; omega)] at hat
          clear h b1
          go_wp2
          go_roundw
          case rel => exact ⟨i + 1, hlt, by go_num, K2⟩
          case measure => simp [intOf]; omega
      · have hpI2 : (s.length : Int) - p ≤ i := by omega
        have b1 : (x.toNat : Int) = 61 := by omega
        rw [UInt8.toNat_inj.1 (show x.toNat = (61 : UInt8).toNat by rw [show (61 : UInt8).toNat = 61 from rfl]; omega)] at hat
        clear h b1
        go_wp2
        go_roundw
        case rel => exact ⟨i + 1, hlt, by go_num, K2⟩
        case measure => simp [intOf]; omega
    · have hltI : ¬ (i : Int) < s.length := by omega
      go_wp2
      go_ret
      exact ⟨rfl, K2.out⟩
end Go.Proofs.YtcfheljkefceeaaDoor
