/- Package part: parts that are the same; does a text stand in bytes; a number's digits. -/
import Derived.Test.YtgpocnnolieijaaGreatDoorPtAw
import Derived.Deep.QuietTactic
import Derived.BigQuiet
set_option linter.unusedSimpArgs false
set_option linter.unusedVariables false
namespace Go.Proofs.YtgpocnnolieijaaGreatDoor.Pt
open Go.ChangeShapes Go.WideShapes Go.ChangeAt Go.RowKit Go.Shelf
open Hd (SRd OwnS)
set_option maxRecDepth 100000 in
set_option maxHeartbeats 4000000 in
theorem same_any (kv lv kv2 lv2 : Value) (ks ls : List B) (w : World) (hk : SRd kv ks w) (hl : LRd lv ls w) (hk2 : SRd kv2 ks w) (hl2 : LRd lv2 ls w) (hkn : ks.length ≤ 1000000) (hln : ls.length ≤ 1000000) :
    Calls Tryz.prog 16 #[kv, lv, kv2, lv2] w fun e w' => e = .returned (.bool true) ∧ Kept w w' := by
  obtain ⟨ka, kc, rfl⟩ := hk.slice
  obtain ⟨la, lc, rfl⟩ := hl.slice
  obtain ⟨ka2, kc2, rfl⟩ := hk2.slice
  obtain ⟨la2, lc2, rfl⟩ := hl2.slice
  have HK := Lib.hid hk
  have HL := Lib.hid hl
  have HK2 := Lib.hid hk2
  have HL2 := Lib.hid hl2
  clear hk hl hk2 hl2
  go_enter Tryz.func16, Tryz.ntmps16
  go_wp2_with fail
  go_loopw [9] (fun vi wr => ∃ i : Nat, i ≤ ks.length ∧ vi = .int .i64 i ∧ Hid (Kept w wr)) (fun vi _ => ks.length - (intOf vi).toNat)
  case atStart => exact ⟨0, Nat.zero_le _, rfl, Lib.hid (Kept.refl w)⟩
  case round =>
    obtain ⟨i, hi, rfl, hK⟩ := hrel
    by_cases hlt : i < ks.length
    · have hltI : (i : Int) < ks.length := by omega
      obtain ⟨k, hk⟩ : ∃ k, ks[i]? = some k := ⟨_, List.getElem?_eq_getElem hlt⟩
      obtain ⟨g, o, c, hv, hc, c0⟩ := (HK.out.kept hK.out).at hk
      obtain ⟨g2, o2, c2, hv2, hc2, d0⟩ := (HK2.out.kept hK.out).at hk
      injection hv with ea _ ec
      subst ea ec
      injection hv2 with ea _ ec
      subst ea ec
      have bu : (k == k) = true := by simp
      clear hk
      go_upto_region 6 with (fail)
      go_quiet (fail)
      have K2 := Lib.hid (hK.out.drewN nq)
      clear hK c0 d0
      go_wp2
      go_roundw
      case rel => exact ⟨i + 1, hlt, by go_num, K2⟩
      case measure => simp [intOf]; omega
    · obtain rfl : i = ks.length := by omega
      have hltI : ¬ (ks.length : Int) < ks.length := by omega
      go_wp2_with fail
      go_loopw [10] (fun vi y => ∃ i : Nat, i ≤ ls.length ∧ vi = .int .i64 i ∧ Hid (Kept w y)) (fun vi _ => ls.length - (intOf vi).toNat)
      case atStart => exact ⟨0, Nat.zero_le _, rfl, hK⟩
      case round =>
        obtain ⟨i, hi, rfl, hK⟩ := hrel
        by_cases hlt : i < ls.length
        · have hltI : (i : Int) < ls.length := by omega
          obtain ⟨k, hk⟩ : ∃ k, ls[i]? = some k := ⟨_, List.getElem?_eq_getElem hlt⟩
          obtain ⟨g, o, c, x, hv, hc, c0, hx⟩ := (HL.out.kept hK.out).at hk
          obtain ⟨g2, o2, c2, x2, hv2, hc2, d0, hx2⟩ := (HL2.out.kept hK.out).at hk
          injection hv with ea _ ec
          subst ea ec
          injection hv2 with ea _ ec
          subst ea ec
          have hcv := fun n => (hx.kept ((Kept.refl wr).drewN n)).conv
          have hcv2 := fun n => (hx2.kept ((Kept.refl wr).drewN n)).conv
          obtain ⟨xa, xc, rfl⟩ := hx.slice
          obtain ⟨xa2, xc2, rfl⟩ := hx2.slice
          have bu : (k == k) = true := by simp
          clear hk hx hx2
          go_upto_region 11 with (fail)
          go_quiet (fail)
          have K2 := Lib.hid (hK.out.drewN nq)
          clear hK c0 d0 hcv hcv2
          go_wp2
          go_roundw
          case rel => exact ⟨i + 1, hlt, by go_num, K2⟩
          case measure => simp [intOf]; omega
        · obtain rfl : i = ls.length := by omega
          have hltI : ¬ (ls.length : Int) < ls.length := by omega
          go_wp2
          go_ret
          exact ⟨rfl, hK.out⟩
open Go.Lib (NoOcc occAt)
def hasV (b x : B) : Bool := decide (¬ Lib.index b x = -1)
set_option maxRecDepth 100000 in
set_option maxHeartbeats 4000000 in
theorem has_any (v : Value) (b x : B) (w : World) (hR : BRd v b w) (hx : x ≠ []) (hb : b.length ≤ 1000000) (hxl : x.length ≤ 1000000) :
    Calls Tryz.prog 18 #[v, sV x] w fun e w' => e = .returned (.bool (hasV b x)) ∧ w' = w := by
  have hxs : (ByteArray.mk x.toArray).size = x.length := List.size_toArray
  obtain ⟨va, vc, rfl⟩ := hR.slice
  have HR := Lib.hid hR
  have HX := Lib.hid hx
  have hxp := List.length_pos_iff.2 hx
  clear hR hx
  go_enter Tryz.func18, Tryz.ntmps18
  go_wp2_with fail
  go_loopw [5] (fun vi wr => ∃ j : Nat, j ≤ b.length ∧ vi = .int .i64 j ∧ Hid (NoOcc b x j) ∧ w = wr) (fun vi _ => b.length - (intOf vi).toNat)
  case atStart => exact ⟨0, by omega, by simp, Lib.hid (Lib.NoOcc.zero _ _), rfl⟩
  case round =>
    obtain ⟨j, hj, rfl, hN, rfl⟩ := hrel
    by_cases hle : (j : Int) + x.length ≤ b.length
    · obtain ⟨g, o, rfl⟩ : ∃ g o, va = some ⟨g, o, none⟩ := by
        obtain ⟨_, h1, _, _⟩ := BRd.parts HR.out
        obtain ⟨g, o, h, _⟩ := h1 (by omega)
        exact ⟨g, o, h⟩
      have hcc := (BRd.parts HR.out).2.2.2
      obtain ⟨n2, hn2⟩ : ∃ n2, j + x.length = n2 := ⟨_, rfl⟩
      have HS := Lib.hid (HR.out.sub j n2 (by omega) (by omega))
      rw [List.drop_take] at HS
      have hcv := HS.out.conv
      have HO := Lib.hid (Lib.occAt_iff_take b x j (by omega))
      rw [show x.length = n2 - j by omega] at HO
      have e1 : (j : Int) + x.length = (n2 : Int) := by omega
      have hjc : ¬ vc = j := by omega
      have hn2b : (n2 : Int) ≤ b.length := by omega
      have hjn : (j : Int) ≤ n2 := by omega
      have hnc : (n2 : Int) ≤ vc := by omega
      clear hn2
      generalize hTT : (b.drop j).take (n2 - j) = T at *
      have HTT := Lib.hid hTT
      clear hTT
      cases hT : (T == x) with
      | true =>
        have HZ := Lib.hid (show hasV b x = true from decide_eq_true (by
          have := Lib.index_hit hN.out hj (HO.out.trans hT)
          omega))
        go_wp2
        go_ret
        exact ⟨by rw [HZ.out]; rfl, by first | rfl | trivial⟩
      | false =>
        have HN := Lib.hid (hN.out.succ (HO.out.trans hT))
        go_wp2
        go_roundw
        case rel => exact ⟨j + 1, by omega, by go_num, HN, by first | rfl | exact trivial⟩
        case measure => simp [intOf]; omega
    · have HZ := Lib.hid (show hasV b x = false from decide_eq_false (fun h => h (Lib.index_past HX.out hN.out (by omega))))
      go_wp2
      go_ret
      exact ⟨by rw [HZ.out]; rfl, by first | rfl | trivial⟩
end Go.Proofs.YtgpocnnolieijaaGreatDoor.Pt
