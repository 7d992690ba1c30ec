/- The document's Bytes. -/
import Derived.Test.YtdhhlcgmkkpldaaGreatDoorBxRa
import Derived.Test.YtdhhlcgmkkpldaaGreatDoorBxY
set_option linter.unusedSimpArgs false
set_option linter.unusedVariables false
namespace Go.Proofs.YtdhhlcgmkkpldaaGreatDoor
open Go.ChangeShapes Go.WideShapes Go.ChangeAt Go.RowKit
open Bx
/-- so many signs' number, from a place on -/
def pn4 (s : B) (i : Nat) : Nat → Nat
  | 0 => 0
  | m + 1 => 64 * pn4 s i m + nm (s.getD (i + m) 0)
theorem pn4_lt (s : B) (i : Nat) : ∀ m, pn4 s i m < 64 ^ m
  | 0 => Nat.zero_lt_one
  | m + 1 => by
    have h := pn4_lt s i m
    have h2 := nm_lt (s.getD (i + m) 0)
    rw [Nat.pow_succ]
    simp only [pn4]
    omega
theorem pn4_bd (s : B) (i m : Nat) (h : m ≤ 4) : pn4 s i m < 16777216 := Nat.lt_of_lt_of_le (pn4_lt s i m) (Nat.pow_le_pow_right (by decide) h : 64 ^ m ≤ 64 ^ 4)
theorem ch4 (s : B) (i : Nat) (h : i + 4 ≤ s.length) : ch (s.drop i) = [UInt8.ofNat (pn4 s i 4 / 65536), UInt8.ofNat (pn4 s i 4 / 256 % 256), UInt8.ofNat (pn4 s i 4 % 256)] ++ ch (s.drop (i + 4)) := by
  have e : ∀ j, (hj : i + j < s.length) → s.getD (i + j) 0 = s[i + j]'hj := fun j hj => by simp [List.getD, hj]
  have hn : pn4 s i 4 = num4 (s[i]'(by omega)) (s[i + 1]'(by omega)) (s[i + 2]'(by omega)) (s[i + 3]'(by omega)) := by
    simp only [pn4, num4]
    rw [e 0 (by omega), e 1 (by omega), e 2 (by omega), e 3 (by omega)]
    simp
  rw [hn, List.drop_eq_getElem_cons (show i < s.length by omega), List.drop_eq_getElem_cons (show i + 1 < s.length by omega), List.drop_eq_getElem_cons (show i + 1 + 1 < s.length by omega), List.drop_eq_getElem_cons (show i + 1 + 1 + 1 < s.length by omega), ch]
  rfl
/-- what is left of what was read, so many places from behind being looked at -/
def cutP (s : B) : Nat → B
  | 0 => ch s
  | k + 1 => if isP s (k + 1) = true then (cutP s k).take ((cutP s k).length - 1) else cutP s k
theorem cutP_2 (s : B) : cutP s 2 = cndR s := by
  unfold cndR pds
  simp only [cutP]
  by_cases h1 : isP s 1 = true
  · by_cases h2 : isP s 2 = true
    · simp only [h1, h2, if_true, List.length_take, List.take_take]
      congr 1
      omega
    · simp only [h1, h2, if_true, if_false, Nat.add_zero, Bool.false_eq_true]
  · by_cases h2 : isP s 2 = true
    · simp only [h1, h2, if_true, if_false, Nat.zero_add, Bool.false_eq_true]
    · simp only [h1, h2, if_false, Bool.false_eq_true]
      simp
theorem cutP_len (s : B) : ∀ k, (ch s).length ≤ (cutP s k).length + k ∧ (cutP s k).length ≤ (ch s).length
  | 0 => ⟨Nat.le_refl _, Nat.le_refl _⟩
  | k + 1 => by
    have h := cutP_len s k
    simp only [cutP]
    split
    · simp only [List.length_take]; omega
    · omega
theorem cutP_yes {s : B} {k : Nat} (h : isP s (k + 1) = true) : cutP s (k + 1) = (cutP s k).take ((cutP s k).length - 1) := by simp only [cutP, h, if_true]
theorem cutP_no {s : B} {k : Nat} (h : isP s (k + 1) = false) : cutP s (k + 1) = cutP s k := by simp only [cutP, h, if_false, Bool.false_eq_true]
theorem isP_yes {s : B} {k : Nat} {x : UInt8} (hx : s[s.length - k]? = some x) (h : (x.toNat : Int) = 61) : isP s k = true := by
  have : x = 61 := UInt8.toNat_inj.1 (by rw [show (61 : UInt8).toNat = 61 from rfl]; omega)
  unfold isP
  rw [hx, this]; rfl
theorem isP_no {s : B} {k : Nat} {x : UInt8} (hx : s[s.length - k]? = some x) (h : ¬ (x.toNat : Int) = 61) : isP s k = false := by
  unfold isP
  rw [hx]
  exact decide_eq_false (fun e => h (by cases e; rfl))
theorem isP_short {s : B} {k : Nat} (h : s.length % 4 = 0) (hk : k ≤ 4) (hs : ¬ k ≤ s.length) : isP s k = false := by
  obtain rfl : s = [] := List.length_eq_zero_iff.1 (by omega)
  exact decide_eq_false (fun e => by simp at e)
/-- fewer of the bytes -/
theorem BRd.to {g o n c : Nat} {l : B} {w : World} (h : BRd (.slice (some ⟨g, o, none⟩) n c) l w) (j : Nat) (hj : j ≤ l.length) : BRd (.slice (some ⟨g, o, none⟩) j c) (l.take j) w := by
  obtain ⟨a, c', hv, _, h⟩ := h
  cases hv
  have hlen : (l.take j).length = j := by simp; omega
  refine ⟨some ⟨g, o, none⟩, c, by rw [hlen], fun e => (by cases e), fun hne => ?_⟩
  obtain ⟨g', o', ha, hc, h⟩ := h (by rintro rfl; simp at hne)
  cases ha
  refine ⟨g, o, rfl, by rw [hlen]; omega, fun k x hx => ?_⟩
  rw [List.getElem?_take] at hx
  split at hx
  · exact h _ _ hx
  · cases hx
set_option maxRecDepth 100000 in
set_option maxHeartbeats 4000000 in
theorem rbytes_any (s : B) (w : World) (hl : s.length ≤ 1000000) : Calls Tryz.prog 45 #[sV s] w fun e w' => ∃ xv, e = .returned xv ∧ BytR w.heap.size s xv w' ∧ Kept w w' := by
  have hss : (ByteArray.mk s.toArray).size = s.length := List.size_toArray
  by_cases h4 : s.length % 4 = 0
  · have h4I : (s.length : Int) % 4 = 0 := by omega
    have HLE := Lib.hid (show (ch s).length ≤ 750000 by rw [ch_len]; omega)
    have HC4 := Lib.hid (ch4 s)
    go_enter Tryz.func45, Tryz.ntmps45
    go_upto_block 0 with (fail)
    clear h4I
    go_cut [4, 5, 6, 7] from 9 (fun vo vi vn vk wx => Hid (Kept w wx) ∧ Hid (OwnB w.heap.size vo (ch s) wx))
    case first =>
      go_wp2_with fail
      go_loopw [4, 5] (fun vm vi wr => ∃ (i : Nat) (D : B), i ≤ s.length ∧ i % 4 = 0 ∧ vi = .int .i64 i ∧ Hid (D ++ ch (s.drop i) = ch s) ∧ Hid (Kept w wr) ∧ Hid (OwnB w.heap.size vm D wr)) (fun _ vi _ => s.length - (intOf vi).toNat)
      case atStart => exact ⟨0, [], Nat.zero_le _, rfl, rfl, Lib.hid rfl, Lib.hid (Kept.refl w), Lib.hid (OwnB.nil _ _)⟩
      case round =>
        obtain ⟨i, D, hi, hi4, rfl, hD, hK, hO⟩ := hrel
        obtain ⟨ta, tc, htv⟩ := own_slice hO.out
        have hDl := len_le hD.out
        have hDl := Nat.le_trans hDl HLE.out
        subst htv
        by_cases hlt : i < s.length
        · have hltI : (i : Int) < s.length := by omega
          have hi5 : i + 4 ≤ s.length := by omega
          go_upto_block 2 with (fail)
          go_cut [6, 7] from 13 to 45 (fun vn vk wx => vn = .int .i64 (pn4 s i 4) ∧ Hid (Kept wr wx))
          case first =>
            clear hD HLE hO HC4
            go_wp2_with fail
            go_loopw [6, 7] (fun vn vk wx => ∃ k : Nat, i ≤ k ∧ k ≤ i + 4 ∧ vn = .int .i64 (pn4 s i (k - i)) ∧ vk = .int .i64 k ∧ Hid (Kept wr wx)) (fun _ vk _ => i + 4 - (intOf vk).toNat)
            case atStart => exact ⟨i, Nat.le_refl _, by omega, by simp [pn4], rfl, Lib.hid (Kept.refl _)⟩
            case round =>
              obtain ⟨k, hk1, hk2, rfl, rfl, hKK⟩ := hrel
              by_cases hk3 : k < i + 4
              · have hk3I : (k : Int) < (i : Int) + 4 := by omega
                have hbd := pn4_bd s i (k - i) (by omega)
                obtain ⟨x, hx⟩ : ∃ x, s[k]? = some x := ⟨_, List.getElem?_eq_getElem (by omega)⟩
                have hS : pn4 s i (k + 1 - i) = 64 * pn4 s i (k - i) + nm x := by
                  rw [show k + 1 - i = (k - i) + 1 by omega, pn4, show i + (k - i) = k by omega, show s.getD k 0 = x by simp [List.getD, hx]]
                have hat := byte_at s k x hx
                have hks : (k : Int) < s.length := by omega
                have hxl := nm_lt x
                have HN := Lib.hid (number_any x)
                clear hx
                generalize pn4 s i (k - i) = n at *
                generalize nm x = q at *
                go_wp2_with fail
                refine (HN.out _).mono ?_
                rintro e y ⟨rfl, ky⟩
                have KY := Lib.hid (hKK.out.trans ky)
                clear ky HN hKK
                go_wp2_with fail
                go_roundw
                case rel => exact ⟨k + 1, by omega, by omega, by rw [hS]; go_num, by go_num, KY⟩
                case measure => simp [intOf]; omega
              · have hk3I : ¬ (k : Int) < (i : Int) + 4 := by omega
                have hke : k - i = 4 := by omega
                rw [hke]
                go_wp2
                go_meet
                case rel => exact ⟨rfl, hKK⟩
          case rest =>
            obtain ⟨rfl, hkc⟩ := hcut
            have hbd := pn4_bd s i 4 (by decide)
            have HC := Lib.hid (HC4.out i hi5)
            generalize pn4 s i 4 = n at *
            have a0 := @UInt8.toNat_ofNat' (n / 65536)
            have a1 := @UInt8.toNat_ofNat' (n / 256 % 256)
            have a2 := @UInt8.toNat_ofNat' (n % 256)
            have b0 : (n : Int) / 65536 = ((UInt8.ofNat (n / 65536)).toNat : Int) := by rw [a0]; omega
            have b1 : (n : Int) / 256 % 256 = ((UInt8.ofNat (n / 256 % 256)).toNat : Int) := by rw [a1]; omega
            have b2 : (n : Int) % 256 = ((UInt8.ofNat (n % 256)).toNat : Int) := by rw [a2]; omega
            clear a0 a1 a2
            generalize UInt8.ofNat (n / 65536) = x0 at *
            generalize UInt8.ofNat (n / 256 % 256) = x1 at *
            generalize UInt8.ofNat (n % 256) = x2 at *
            have kx : Kept wc (wc.alloc (.cells #[.int .u8 x0.toNat, .int .u8 x1.toNat, .int .u8 x2.toNat] 5)) := (Kept.refl wc).alloc _
            have OX := Lib.hid (hO.out.kept (hkc.out.trans kx))
            have KX := Lib.hid (hK.out.trans (hkc.out.trans kx))
            have HBX := Lib.hid (brd_new wc [x0, x1, x2] 5 #[.int .u8 x0.toNat, .int .u8 x1.toNat, .int .u8 x2.toNat] rfl 3 (Nat.le_refl 3) (0, 0))
            have hszx := KX.out.size
            have HD2 := Lib.hid (show (D ++ [x0, x1, x2]) ++ ch (s.drop (i + 4)) = ch s by rw [← hD.out, HC.out, List.append_assoc])
            clear hD hO hK hkc kx HC HC4
            go_wp2_with (at_builtin; refine wpList_sliceB rfl _ _ rfl w.heap.size (.slice ta D.length tc) _ D [x0, x1, x2] rfl OX.out rfl HBX.out (by simp; omega) hszx ?_)
            intro v' z hz hgz
            have KZ := Lib.hid (kept_row KX.out hgz (fun g hg => (World.ownsRow.lt OX.out g hg).1))
            have OZ := Lib.hid hz
            clear hz hgz OX KX HBX
            go_wp2_with fail
            go_roundw
            case rel => exact ⟨i + 4, D ++ [x0, x1, x2], hi5, by omega, by go_num, HD2, KZ, OZ⟩
            case measure => simp [intOf]; omega
        · have hltI : ¬ (i : Int) < s.length := by omega
          have HF := Lib.hid (show D = ch s by rw [← hD.out, List.drop_eq_nil_of_le (Nat.le_of_not_lt hlt), ch_nil, List.append_nil])
          clear hD
          go_wp2
          go_meet
          case rel => exact ⟨hK, Lib.hid (by rw [← HF.out]; exact hO.out)⟩
    case rest =>
      obtain ⟨hK, hO⟩ := hcut
      clear HC4
      obtain ⟨ta, tc, htv⟩ := own_slice hO.out
      subst htv
      have hcl := HLE.out
      have hchl := ch_len s
      go_upto_block 4 with (fail)
      go_cut [4, 8] from 46 (fun vo vk wx => Hid (Kept w wx) ∧ Hid (OwnB w.heap.size vo (cutP s 2) wx))
      case first =>
        go_wp2_with fail
        go_loopw [4, 8] (fun vo vk wr => ∃ k : Nat, 1 ≤ k ∧ k ≤ 3 ∧ vk = .int .i64 k ∧ Hid (Kept w wr) ∧ Hid (OwnB w.heap.size vo (cutP s (k - 1)) wr)) (fun _ vk _ => 3 - (intOf vk).toNat)
        case atStart => exact ⟨1, Nat.le_refl _, by decide, rfl, hK, hO⟩
        case round =>
          obtain ⟨k, hk1, hk3, rfl, hK, hO⟩ := hrel
          obtain rfl | rfl | rfl : k = 1 ∨ k = 2 ∨ k = 3 := by omega
          · rw [show 1 - 1 = 0 from rfl] at hO
            by_cases hsk : 1 ≤ s.length
            · have hskI : (1 : Int) ≤ s.length := by omega
              obtain ⟨x, hx⟩ : ∃ x, s[s.length - 1]? = some x := ⟨_, List.getElem?_eq_getElem (by omega)⟩
              have hat := byte_at s (s.length - 1) x hx
              have hle := cutP_len s 0
              by_cases h61 : (x.toNat : Int) = 61
              · have HS := Lib.hid (cutP_yes (k := 0) (isP_yes hx h61))
                rw [UInt8.toNat_inj.1 (show x.toNat = (61 : UInt8).toNat by rw [show (61 : UInt8).toNat = 61 from rfl]; omega)] at hat
                clear hx h61
                generalize cutP s 0 = D at *
                have hDn : D.length ≠ 0 := by omega
                obtain ⟨g, cp, hv, hcp, _⟩ := own_some hO.out hDn
                subst hv
                have HBR := Lib.hid (hO.out.rd.to (D.length - 1) (by omega))
                have hD1 : ((D.length - 1 : Nat) : Int) = (D.length : Int) - 1 := by omega
                have htl : (D.take (D.length - 1)).length = D.length - 1 := by simp
                have hcpI : (D.length : Int) ≤ cp := by omega
                have hDL : D.length ≤ 750000 := by omega
                have hszw := hK.out.size
                go_wp2_with (at_builtin; refine wpList_sliceB rfl _ _ rfl w.heap.size (.slice none 0 0) _ [] (D.take (D.length - 1)) rfl (OwnB.nil _ _) rfl HBR.out (by rw [htl]; simp; omega) hszw ?_)
                intro v' z hz hgz
                have KZ := Lib.hid (kept_row hK.out hgz (fun g hg => (by cases hg)))
                have hz : OwnB w.heap.size v' (D.take (D.length - 1)) z := hz
                rw [← HS.out] at hz
                have OZ := Lib.hid hz
                clear hz hgz HBR HS
                go_wp2_with fail
                go_roundw
                case rel => exact ⟨2, by decide, by decide, rfl, KZ, OZ⟩
                case measure => simp [intOf]
              · have HS := Lib.hid (cutP_no (k := 0) (isP_no hx h61))
                have h61b : ((x.toNat : Int) == 61) = false := beq_eq_false_iff_ne.2 h61
                clear hx h61
                go_wp2_with fail
                go_roundw
                case rel => exact ⟨2, by decide, by decide, rfl, hK, Lib.hid (by rw [show 2 - 1 = 0 + 1 from rfl, HS.out]; exact hO.out)⟩
                case measure => simp [intOf]
            · have HS := Lib.hid (cutP_no (k := 0) (isP_short h4 (by decide) hsk))
              have hskI : ¬ (1 : Int) ≤ s.length := by omega
              clear hsk
              go_wp2_with fail
              go_roundw
              case rel => exact ⟨2, by decide, by decide, rfl, hK, Lib.hid (by rw [show 2 - 1 = 0 + 1 from rfl, HS.out]; exact hO.out)⟩
              case measure => simp [intOf]
          · rw [show 2 - 1 = 1 from rfl] at hO
            by_cases hsk : 2 ≤ s.length
            · have hskI : (2 : Int) ≤ s.length := by omega
              obtain ⟨x, hx⟩ : ∃ x, s[s.length - 2]? = some x := ⟨_, List.getElem?_eq_getElem (by omega)⟩
              have hat := byte_at s (s.length - 2) x hx
              have hle := cutP_len s 1
              by_cases h61 : (x.toNat : Int) = 61
              · have HS := Lib.hid (cutP_yes (k := 1) (isP_yes hx h61))
                rw [UInt8.toNat_inj.1 (show x.toNat = (61 : UInt8).toNat by rw [show (61 : UInt8).toNat = 61 from rfl]; omega)] at hat
                clear hx h61
                generalize cutP s 1 = D at *
                have hDn : D.length ≠ 0 := by omega
                obtain ⟨g, cp, hv, hcp, _⟩ := own_some hO.out hDn
                subst hv
                have HBR := Lib.hid (hO.out.rd.to (D.length - 1) (by omega))
                have hD1 : ((D.length - 1 : Nat) : Int) = (D.length : Int) - 1 := by omega
                have htl : (D.take (D.length - 1)).length = D.length - 1 := by simp
                have hcpI : (D.length : Int) ≤ cp := by omega
                have hDL : D.length ≤ 750000 := by omega
                have hszw := hK.out.size
                go_wp2_with (at_builtin; refine wpList_sliceB rfl _ _ rfl w.heap.size (.slice none 0 0) _ [] (D.take (D.length - 1)) rfl (OwnB.nil _ _) rfl HBR.out (by rw [htl]; simp; omega) hszw ?_)
                intro v' z hz hgz
                have KZ := Lib.hid (kept_row hK.out hgz (fun g hg => (by cases hg)))
                have hz : OwnB w.heap.size v' (D.take (D.length - 1)) z := hz
                rw [← HS.out] at hz
                have OZ := Lib.hid hz
                clear hz hgz HBR HS
                go_wp2_with fail
                go_roundw
                case rel => exact ⟨3, by decide, by decide, rfl, KZ, OZ⟩
                case measure => simp [intOf]
              · have HS := Lib.hid (cutP_no (k := 1) (isP_no hx h61))
                have h61b : ((x.toNat : Int) == 61) = false := beq_eq_false_iff_ne.2 h61
                clear hx h61
                go_wp2_with fail
                go_roundw
                case rel => exact ⟨3, by decide, by decide, rfl, hK, Lib.hid (by rw [show 3 - 1 = 1 + 1 from rfl, HS.out]; exact hO.out)⟩
                case measure => simp [intOf]
            · have HS := Lib.hid (cutP_no (k := 1) (isP_short h4 (by decide) hsk))
              have hskI : ¬ (2 : Int) ≤ s.length := by omega
              clear hsk
              go_wp2_with fail
              go_roundw
              case rel => exact ⟨3, by decide, by decide, rfl, hK, Lib.hid (by rw [show 3 - 1 = 1 + 1 from rfl, HS.out]; exact hO.out)⟩
              case measure => simp [intOf]
          · go_wp2
            go_meet
            case rel => exact ⟨hK, hO⟩
      case rest =>
        obtain ⟨hK, hO⟩ := hcut
        rw [cutP_2] at hO
        have HY := Lib.hid (fun hq => byt_R (s := s) hq)
        have HL2 := Lib.hid (show (cndR s).length ≤ 750000 by have := cutP_len s 2; rw [cutP_2] at this; omega)
        generalize cndR s = z at *
        have HZ := Lib.hid hO.out.rd
        obtain ⟨ta, tc, htv⟩ := own_slice hO.out
        subst htv
        go_wp2_with fail
        refine (rraw_any _ z wc HZ.out (by have := HL2.out; omega)).mono ?_
        rintro e x2 ⟨rfl, k2⟩
        have K2 := Lib.hid (hK.out.trans k2)
        have O2 := Lib.hid (hO.out.kept k2)
        clear k2 hO HZ hK
        by_cases hz : raw z = s
        · have HB := Lib.hid (byt_some hz)
          rw [hz]
          go_wp2
          go_ret2
          exact ⟨_, rfl, BytR.some HB.out O2.out, K2.out⟩
        · have HB := Lib.hid (HY.out hz)
          have hq : (raw z == s) = false := beq_eq_false_iff_ne.2 hz
          clear HY hz
          generalize raw z = q at *
          go_wp2
          go_ret2
          exact ⟨_, rfl, BytR.none HB.out _, K2.out⟩
  · have h4I : (((s.length : Int) % 4) == 0) = false := beq_eq_false_iff_ne.2 (by omega)
    have HB := Lib.hid (byt_4 h4)
    go_enter Tryz.func45, Tryz.ntmps45
    go_wp2
    go_ret2
    exact ⟨_, rfl, BytR.none HB.out _, Kept.refl _⟩
end Go.Proofs.YtdhhlcgmkkpldaaGreatDoor
