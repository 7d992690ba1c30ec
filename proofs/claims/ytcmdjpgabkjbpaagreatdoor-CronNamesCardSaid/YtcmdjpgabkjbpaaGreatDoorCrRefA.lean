/- Contracts of the document's answer for package cron: bounds, lists, digits. -/
import Derived.Test.YtcmdjpgabkjbpaaGreatDoorCrParse
set_option linter.unusedVariables false
namespace Go.Proofs.YtcmdjpgabkjbpaaGreatDoor
open Go.ChangeShapes Go.WideShapes Go.ChangeAt Go.RowKit
open Crn
theorem low_any (f : Nat) (hf : f < 5) (w : World) : Calls Tryz.prog 32 #[.int .i64 f] w fun e w' => e = .returned (.int .i64 (lo f)) ∧ w = w' := by
  rcases (show f = 0 ∨ f = 1 ∨ f = 2 ∨ f = 3 ∨ f = 4 by omega) with rfl | rfl | rfl | rfl | rfl
  all_goals
    go_enter Tryz.func32, Tryz.ntmps32
    go_wp2
    go_ret
    exact ⟨rfl, rfl⟩
theorem high_any (f : Nat) (hf : f < 5) (w : World) : Calls Tryz.prog 33 #[.int .i64 f] w fun e w' => e = .returned (.int .i64 (hi f)) ∧ w = w' := by
  rcases (show f = 0 ∨ f = 1 ∨ f = 2 ∨ f = 3 ∨ f = 4 by omega) with rfl | rfl | rfl | rfl | rfl
  all_goals
    go_enter Tryz.func33, Tryz.ntmps33
    go_wp2
    go_ret
    exact ⟨rfl, rfl⟩
theorem has_step (l : List Int) (k : Nat) (m n : Int) (h : l[k]? = some m) : (l.drop k).contains n = (decide (m = n) || (l.drop (k + 1)).contains n) := by
  have : l.drop k = m :: l.drop (k + 1) := by
    obtain ⟨hk, rfl⟩ := List.getElem?_eq_some_iff.1 h
    exact List.drop_eq_getElem_cons hk
  rw [this, List.contains_cons]
  congr 1
  by_cases e : m = n
  · subst e; simp
  · rw [decide_eq_false e]; exact beq_eq_false_iff_ne.2 (fun h => e h.symm)
theorem rhas_any (v : Value) (l : List Int) (n : Int) (w : World) (hv : Rs w v l) : Calls Tryz.prog 25 #[v, .int .i64 n] w fun e w' => e = .returned (.bool (l.contains n)) ∧ w = w' := by
  have hl := hv.len
  unfold maxLen at hl
  obtain ⟨ad, c, rfl⟩ := hv.slice
  have HV := Lib.hid hv; clear hv
  go_enter Tryz.func25, Tryz.ntmps25
  go_wp2_with fail
  go_loopw [5] (fun i y => y = w ∧ ∃ k : Nat, k ≤ l.length ∧ i = .int .i64 k ∧ l.contains n = (l.drop k).contains n) (fun i _ => l.length - (intOf i).toNat)
  case atStart => exact ⟨rfl, 0, Nat.zero_le _, rfl, by simp⟩
  case round =>
    obtain ⟨rfl, k, hk, rfl, hc⟩ := hrel
    by_cases hlt : k < l.length
    · obtain ⟨b, o, c2, hs, hb, hcell⟩ := HV.out.at hlt
      simp only [Value.slice.injEq] at hs
      obtain ⟨rfl, _, rfl⟩ := hs
      obtain ⟨m, hm⟩ : ∃ m, l[k]? = some m := ⟨_, List.getElem?_eq_getElem hlt⟩
      have ck := hcell k m hm
      have HS := Lib.hid (hc.trans (has_step l k m n hm))
      clear hcell hm hc
      by_cases he : m = n
      · go_wp2
        go_ret
        exact ⟨ret_bool (by rw [HS.out, decide_eq_true he]; rfl), rfl⟩
      · go_wp2
        go_roundw
        case rel => exact ⟨trivial, k + 1, hlt, by go_num, by rw [HS.out, decide_eq_false he]; rfl⟩
        case measure => simp [intOf]; omega
    · have HE := Lib.hid (show l.contains n = false by rw [hc, List.drop_eq_nil_of_le (by omega)]; rfl)
      go_wp2
      go_ret
      exact ⟨ret_bool HE.out.symm, rfl⟩
def dgV (l : List UInt8) : Int := match digs l with | some n => n | none => -1
def dgF : List UInt8 → Int → Int
  | [], n => n
  | a :: r, n => if isD a = true then dgF r (10 * n + dv a) else -1
theorem dgV_eq (l : List UInt8) (h1 : 1 ≤ l.length) (h2 : l.length ≤ 2) : dgV l = dgF l 0 := by
  rcases l with _ | ⟨a, _ | ⟨b, _ | ⟨c, r⟩⟩⟩
  · simp at h1
  · by_cases ha : isD a = true
    · simp [dgV, digs, dgF, ha]
    · simp [dgV, digs, dgF, ha]
  · by_cases ha : isD a = true
    · by_cases hb : isD b = true
      · simp [dgV, digs, dgF, ha, hb]
      · simp [dgV, digs, dgF, ha, hb]
    · simp [dgV, digs, dgF, ha]
  · simp at h2
theorem dgV_out (l : List UInt8) (h : l.length < 1 ∨ 2 < l.length) : dgV l = -1 := by
  rcases l with _ | ⟨a, _ | ⟨b, _ | ⟨c, r⟩⟩⟩
  · rfl
  · simp at h
  · simp at h
  · rfl
theorem dgF_step (l : List UInt8) (k : Nat) (n : Int) (a : UInt8) (h : l[k]? = some a) : dgF (l.drop k) n = if isD a = true then dgF (l.drop (k + 1)) (10 * n + dv a) else -1 := by
  have : l.drop k = a :: l.drop (k + 1) := by
    obtain ⟨hk, rfl⟩ := List.getElem?_eq_some_iff.1 h
    exact List.drop_eq_getElem_cons hk
  rw [this, dgF]
theorem byte_at (l : List UInt8) (k : Nat) (a : UInt8) (h : l[k]? = some a) (hk : k < (ByteArray.mk l.toArray).size) : (ByteArray.mk l.toArray)[k]'hk = a := by
  obtain ⟨h1, h2⟩ := List.getElem?_eq_some_iff.1 h
  rw [← h2]; rfl
set_option maxHeartbeats 1000000 in
theorem rdigits_any (l : List UInt8) (w : World) (hl : l.length ≤ 1000) : Calls Tryz.prog 52 #[.string ⟨l.toArray⟩] w fun e w' => e = .returned (.int .i64 (dgV l)) ∧ w = w' := by
  by_cases h : l.length < 1 ∨ 2 < l.length
  · have HD := Lib.hid (dgV_out l h)
    by_cases h1 : l.length < 1
    · go_enter Tryz.func52, Tryz.ntmps52
      go_wp2
      go_ret
      exact ⟨ret_int HD.out.symm, rfl⟩
    · have h2 : 2 < l.length := by omega
      clear h
      go_enter Tryz.func52, Tryz.ntmps52
      go_wp2
      go_ret
      exact ⟨ret_int HD.out.symm, rfl⟩
  · have HD := Lib.hid (dgV_eq l (by omega) (by omega))
    have h1 : ¬ l.length < 1 := by omega
    have h2 : ¬ 2 < l.length := by omega
    clear h
    go_enter Tryz.func52, Tryz.ntmps52
    go_wp2_with fail
    go_loopw [3, 4] (fun a i y => y = w ∧ ∃ (k : Nat) (n : Int), k ≤ l.length ∧ i = .int .i64 k ∧ a = .int .i64 n ∧ 0 ≤ n ∧ ((k = 0 ∧ n = 0) ∨ (k = 1 ∧ n ≤ 9) ∨ (2 ≤ k ∧ n ≤ 99)) ∧ dgV l = dgF (l.drop k) n) (fun _ i _ => l.length - (intOf i).toNat)
    case atStart => exact ⟨rfl, 0, 0, Nat.zero_le _, rfl, rfl, by omega, by omega, by rw [HD.out]; rfl⟩
    case round =>
      obtain ⟨rfl, k, n, hk, rfl, rfl, n0, n1, hc⟩ := hrel
      by_cases hlt : k < l.length
      · obtain ⟨a, ha⟩ : ∃ a, l[k]? = some a := ⟨_, List.getElem?_eq_getElem hlt⟩
        have hst := hc.trans (dgF_step l k n a ha)
        have hat := byte_at l k a ha
        have hdd : isD a = decide (48 ≤ a.toNat ∧ a.toNat ≤ 57) := rfl
        by_cases hd : isD a = true
        · rw [if_pos hd] at hst
          have HS := Lib.hid hst
          have db := dv_bd hd
          have hv : (a.toNat : Int) = dv a + 48 := by unfold dv; omega
          have g1 : ¬ (a.toNat : Int) < 48 := by omega
          have g2 : ¬ 57 < (a.toNat : Int) := by omega
          have g3 : ((a.toNat : Int) - 48) % 256 = dv a := by omega
          clear hst hc ha hd hdd
          go_wp2
          go_roundw
          case rel => exact ⟨trivial, k + 1, 10 * n + dv a, hlt, by go_num, rfl, by omega, by omega, HS.out⟩
          case measure => simp [intOf]; omega
        · rw [if_neg hd] at hst
          have HS := Lib.hid hst
          have hn : ¬ (48 ≤ a.toNat ∧ a.toNat ≤ 57) := by rw [hdd] at hd; simpa using hd
          by_cases g1 : (a.toNat : Int) < 48
          · clear hst hc ha hd hdd hn
            go_wp2
            go_ret
            exact ⟨ret_int HS.out.symm, rfl⟩
          · have g2 : 57 < (a.toNat : Int) := by omega
            clear hst hc ha hd hdd hn
            go_wp2
            go_ret
            exact ⟨ret_int HS.out.symm, rfl⟩
      · have HE := Lib.hid (show dgV l = n by rw [hc, List.drop_eq_nil_of_le (by omega)]; rfl)
        go_wp2
        go_ret
        exact ⟨ret_int HE.out.symm, rfl⟩
theorem small_step (l : List UInt8) (k : Nat) (a : UInt8) (h : l[k]? = some a) : (l.take (k + 1)).map Lib.lowerB = (l.take k).map Lib.lowerB ++ [Lib.lowerB a] := by
  rw [List.take_add_one, h]; simp
theorem app_mk (a b : List UInt8) : (⟨a.toArray⟩ ++ ⟨b.toArray⟩ : ByteArray) = ⟨(a ++ b).toArray⟩ := by
  apply ByteArray.ext; simp [ByteArray.data_append]
set_option maxHeartbeats 1000000 in
set_option maxRecDepth 100000 in
theorem rsmall_any (l : List UInt8) (w : World) (hl : l.length ≤ 1000) : Calls Tryz.prog 84 #[.string ⟨l.toArray⟩] w fun e w' => e = .returned (.string ⟨(l.map Lib.lowerB).toArray⟩) ∧ Kept w w' := by
  have hcb : ∀ (W : World) (b : UInt8), (convert 46 9 (.slice (some ⟨W.heap.size, 0, none⟩) 1 1)).run Tryz.prog (W.alloc (.cells #[.int .u8 b.toNat] 5)) = .ok (.string ⟨[b].toArray⟩) (W.alloc (.cells #[.int .u8 b.toNat] 5)) := by
    intro W b
    refine run_convert_bytes_back _ _ _ _ _ 1 [b] Tryz.underlying46 Tryz.underlying5 Tryz.underlying9 ?_
    intro j hj
    obtain rfl : j = 0 := by simp at hj; omega
    have := new_cell W #[.int .u8 b.toNat] 5 0 _ rfl
    simp [Addr.add]
  go_enter Tryz.func84, Tryz.ntmps84
  go_wp2_with fail
  go_loopw [3, 4] (fun a i y => ∃ k : Nat, k ≤ l.length ∧ i = .int .i64 k ∧ a = .string ⟨((l.take k).map Lib.lowerB).toArray⟩ ∧ Kept w y) (fun _ i _ => l.length - (intOf i).toNat)
  case atStart => exact ⟨0, Nat.zero_le _, rfl, rfl, Kept.refl _⟩
  case round =>
    obtain ⟨k, hk, rfl, rfl, hkp⟩ := hrel
    by_cases hlt : k < l.length
    · obtain ⟨a, ha⟩ : ∃ a, l[k]? = some a := ⟨_, List.getElem?_eq_getElem hlt⟩
      have HS := Lib.hid (small_step l k a ha)
      have hat := byte_at l k a ha
      have KP := Lib.hid hkp
      have hlen : ((l.take k).map Lib.lowerB).length = k := by simp; omega
      generalize (l.take k).map Lib.lowerB = s at *
      clear ha hkp
      by_cases g1 : (65 : Int) ≤ (a.toNat : Int) ∧ (a.toNat : Int) ≤ 90
      · obtain ⟨g1, g2⟩ := g1
        have hw : ((Lib.lowerB a).toNat : Int) = (a.toNat : Int) + 32 := by
          have h1 : (65 : UInt8) ≤ a := by rw [UInt8.le_iff_toNat_le]; show 65 ≤ a.toNat; omega
          have h2 : a ≤ (90 : UInt8) := by rw [UInt8.le_iff_toNat_le]; show a.toNat ≤ 90; omega
          unfold Lib.lowerB Lib.isUpperB
          simp [h1, h2, UInt8.toNat_add]; omega
        have hc2 := fun W => hcb W (Lib.lowerB a)
        rw [hw] at hc2
        generalize Lib.lowerB a = b at *
        clear hw hcb
        go_wp2
        go_roundw
        case rel => exact ⟨k + 1, hlt, by go_num, by rw [HS.out, ← app_mk], KP.out.alloc _⟩
        case measure => simp [intOf]; omega
      · have hw : Lib.lowerB a = a := by
          unfold Lib.lowerB Lib.isUpperB
          by_cases h1 : (65 : UInt8) ≤ a
          · have h2 : ¬ a ≤ (90 : UInt8) := by
              rw [UInt8.le_iff_toNat_le]; rw [UInt8.le_iff_toNat_le] at h1
              change 65 ≤ a.toNat at h1; change ¬ a.toNat ≤ 90; omega
            simp [h2]
          · simp [h1]
        rw [hw] at HS
        have hc2 := fun W => hcb W a
        clear hw hcb
        by_cases g2 : (65 : Int) ≤ (a.toNat : Int)
        · have g3 : ¬ (a.toNat : Int) ≤ 90 := by omega
          clear g1
          go_wp2
          go_roundw
          case rel => exact ⟨k + 1, hlt, by go_num, by rw [HS.out, ← app_mk], KP.out.alloc _⟩
          case measure => simp [intOf]; omega
        · clear g1
          go_wp2
          go_roundw
          case rel => exact ⟨k + 1, hlt, by go_num, by rw [HS.out, ← app_mk], KP.out.alloc _⟩
          case measure => simp [intOf]; omega
    · have hE := Lib.hid (show l.take k = l by rw [List.take_of_length_le (by omega)])
      go_wp2
      go_ret
      rw [hE.out]
      exact ⟨rfl, hkp⟩
end Go.Proofs.YtcmdjpgabkjbpaaGreatDoor
