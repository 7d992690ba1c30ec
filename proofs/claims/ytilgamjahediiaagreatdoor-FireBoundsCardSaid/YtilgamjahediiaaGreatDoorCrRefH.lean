/- The document's own answers of package cron: whether a schedule may be. -/
import Derived.Test.YtilgamjahediiaaGreatDoorCrD
import Derived.Test.YtilgamjahediiaaGreatDoorCrB
import Derived.BigQuiet
set_option linter.unusedVariables false
namespace Go.Proofs.YtilgamjahediiaaGreatDoor
open Go.ChangeShapes Go.WideShapes Go.ChangeAt Go.RowKit
open Crn
theorem mayC_all {c : CR} (h : ∀ j, j < 5 → mayF j (c.L j) (c.st j) = true) : mayC c = true := by
  unfold mayC
  rw [h 0 (by omega), h 1 (by omega), h 2 (by omega), h 3 (by omega), h 4 (by omega)]; rfl
theorem quiet_eq {f : FuncId} {args : Array Value} {w : World} {n : Nat} {v : Value} (h : Calls Tryz.prog f args (w.drewN n) fun e w' => e = .returned v ∧ w.drewN n = w') : Calls Tryz.prog f args (w.drewN n) fun e w'' => e = .returned v ∧ ∃ m, w'' = w.drewN m :=
  h.mono fun _ _ ⟨he, hm⟩ => ⟨he, n, hm.symm⟩
set_option maxRecDepth 100000 in
set_option maxHeartbeats 2000000 in
theorem rcmay_any (c : CR) (sl : Nat → Value) (w : World) (hc : Cr w sl c.L) : Calls Tryz.prog 32 #[crV sl c.st] w fun e w' => e = .returned (.bool (mayC c)) ∧ Kept w w' := by
  have k0 := (Kept.refl w).alloc (.cells (cr10 sl c.st) 30)
  have B0 := Lib.hid (Cb.new sl c.st w)
  have C0 := Lib.hid (hc.kept k0)
  have K0 := Lib.hid k0
  clear hc k0
  go_enter Tryz.func32, Tryz.ntmps32
  go_upto_region 1 with (fail)
  generalize w.alloc (.cells (cr10 sl c.st) 30) = x at *
  go_wp2_with fail
  go_loopw [3, 4, 5] (fun i _ _ y => Kept x y ∧ ∃ k : Nat, k ≤ 5 ∧ i = .int .i64 k ∧ ∀ j, j < k → mayF j (c.L j) (c.st j) = true) (fun i _ _ _ => 5 - (intOf i).toNat)
  case atStart => exact ⟨Kept.refl _, 0, by omega, rfl, fun j hj => absurd hj (by omega)⟩
  case round =>
    obtain ⟨hkx, k, hk, rfl, hf⟩ := hrel
    have HF := Lib.hid hf; have HK := Lib.hid hkx
    clear hf
    by_cases hlt : k < 5
    · have AA := B0.out.kept hkx
      obtain ⟨r1, r2⟩ := cr_L sl c.st k hlt
      have d1 := cell_of AA r1
      have d2 := cell_of AA r2
      have D2 := Lib.hid d2
      have ra := Lib.hid ((C0.out.kept hkx) k hlt)
      clear AA r1 r2 hkx
      obtain ⟨a1, c1, e1⟩ := ra.out.slice
      have n1 := ra.out.len
      unfold maxLen at n1
      have hlo := lo_bd k; have hhi := hi_bd k
      have HN := Lib.hid (fun h : mayF k (c.L k) (c.st k) = false => mayC_no hlt h)
      have HY := Lib.hid (fun h : mayF k (c.L k) (c.st k) = true => show ∀ j, j < k + 1 → mayF j (c.L j) (c.st j) = true from fun j hj => if e : j = k then e ▸ h else HF.out j (by omega))
      have HM := Lib.hid (show mayF k (c.L k) (c.st k) = (!(c.L k).isEmpty && rises (lo k) (Crn.hi k) (c.L k) && (!(c.st k) || decide (((c.L k).length : Int) = Crn.hi k - lo k + 1))) from rfl)
      clear HF
      generalize mayF k (c.L k) (c.st k) = mf at *
      generalize c.L k = l at *
      generalize hsk : c.st k = s at *
      have HSK := Lib.hid hsk; clear hsk
      rw [e1] at d1
      clear d2
      generalize hln : l.length = m2 at *
      have HLN := Lib.hid hln; clear hln
      go_wp2_with fail
      generalize hW : wr = W1 at *
      clear hW
      go_loopw [5] (fun j y => Kept W1 y ∧ ∃ (t : Nat) (m : Int), t ≤ m2 ∧ j = .int .i64 t ∧ lo k ≤ m ∧ (t = 0 → m = lo k) ∧ (0 < t → l[t - 1]? = some (m - 1)) ∧ rises (lo k) (Crn.hi k) l = rises m (Crn.hi k) (l.drop t)) (fun j _ => m2 - (intOf j).toNat)
      case atStart => exact ⟨Kept.refl _, 0, lo k, by omega, rfl, Int.le_refl _, fun _ => rfl, fun h => absurd h (by omega), by simp⟩
      case round =>
        obtain ⟨hky, t, m, ht, rfl, hm0, hm1, hm2, hr⟩ := hrel
        have HKY := Lib.hid hky
        by_cases hlt2 : t < m2
        · have HR := Lib.hid hr; have HM1 := Lib.hid hm1; have HM2 := Lib.hid hm2
          clear hr hm1 hm2
          go_upto_region 8 with (fail)
          have ra2 := ra.out.kept hky
          rw [e1] at ra2
          have hl2 := HLN.out
          obtain ⟨p1, o1, x1, q1, _, g1⟩ := ra2.at (k := t) (by omega)
          simp only [Value.slice.injEq] at q1
          obtain ⟨q1, _, _⟩ := q1
          subst q1
          obtain ⟨z, hz⟩ : ∃ z, l[t]? = some z := ⟨_, List.getElem?_eq_getElem (by omega)⟩
          have f1 := g1 t z hz
          have hti : (t : Int) < (m2 : Int) := by omega
          have ht0 : (0 : Int) ≤ (t : Int) := by omega
          have HS := Lib.hid (HR.out.trans (rises_step hz))
          have Z := Lib.hid hz
          clear hz ra2 e1 hl2
          by_cases c1 : z < lo k
          · have HE := Lib.hid (show mayC c = false from HN.out (by rw [HM.out, HS.out, decide_eq_false (by omega)]; simp))
            go_quiet (first | (go_at_call 64; exact quiet_eq (low_any k hlt _)) | (go_at_call 65; exact quiet_eq (high_any k hlt _)))
            go_wp2
            go_ret
            exact ⟨ret_bool HE.out.symm, K0.out.trans (HK.out.trans (HKY.out.trans ((Kept.refl _).drewN _)))⟩
          by_cases c2 : Crn.hi k < z
          · have HE := Lib.hid (show mayC c = false from HN.out (by rw [HM.out, HS.out, decide_eq_false (by omega)]; simp))
            go_quiet (first | (go_at_call 64; exact quiet_eq (low_any k hlt _)) | (go_at_call 65; exact quiet_eq (high_any k hlt _)))
            go_wp2
            go_ret
            exact ⟨ret_bool HE.out.symm, K0.out.trans (HK.out.trans (HKY.out.trans ((Kept.refl _).drewN _)))⟩
          by_cases c3 : 0 < t
          · have c3i : (0 : Int) < (t : Int) := by omega
            have hp := HM2.out c3
            have f2 := g1 (t - 1) (m - 1) hp
            have hsub : (t : Int) - 1 = ((t - 1 : Nat) : Int) := by omega
            have hp0 : (0 : Int) ≤ (t : Int) - 1 := by omega
            have hp1 : (t : Int) - 1 < (m2 : Int) := by omega
            have hpn : t - 1 < m2 := by omega
            by_cases c4 : z ≤ m - 1
            · have HE := Lib.hid (show mayC c = false from HN.out (by rw [HM.out, HS.out, decide_eq_false (by omega)]; simp))
              go_quiet (first | (go_at_call 64; exact quiet_eq (low_any k hlt _)) | (go_at_call 65; exact quiet_eq (high_any k hlt _)))
              go_wp2
              go_ret
              exact ⟨ret_bool HE.out.symm, K0.out.trans (HK.out.trans (HKY.out.trans ((Kept.refl _).drewN _)))⟩
            · have HE := Lib.hid (show rises (lo k) (Crn.hi k) l = rises (z + 1) (Crn.hi k) (l.drop (t + 1)) by rw [HS.out, decide_eq_true (by omega)]; rfl)
              go_quiet (first | (go_at_call 64; exact quiet_eq (low_any k hlt _)) | (go_at_call 65; exact quiet_eq (high_any k hlt _)))
              clear hp f1 f2 g1
              go_wp2
              go_roundw
              case rel => exact ⟨HKY.out.trans ((Kept.refl _).drewN _), t + 1, z + 1, hlt2, by go_num, by omega, fun h => absurd h (by omega), fun _ => by rw [Nat.add_sub_cancel, Z.out]; congr 1; omega, HE.out⟩
              case measure => simp [intOf]; omega
          · have hmz := HM1.out (by omega)
            have c3i : ¬ (0 : Int) < (t : Int) := by omega
            have HE := Lib.hid (show rises (lo k) (Crn.hi k) l = rises (z + 1) (Crn.hi k) (l.drop (t + 1)) by rw [HS.out, decide_eq_true (by omega)]; rfl)
            clear hmz
            go_quiet (first | (go_at_call 64; exact quiet_eq (low_any k hlt _)) | (go_at_call 65; exact quiet_eq (high_any k hlt _)))
            clear f1 g1
            go_wp2
            go_roundw
            case rel => exact ⟨HKY.out.trans ((Kept.refl _).drewN _), t + 1, z + 1, hlt2, by go_num, by omega, fun h => absurd h (by omega), fun _ => by rw [Nat.add_sub_cancel, Z.out]; congr 1; omega, HE.out⟩
            case measure => simp [intOf]; omega
        · obtain rfl : t = m2 := by omega
          have HE := Lib.hid (show mf = (!l.isEmpty && (!s || decide ((t : Int) = Crn.hi k - lo k + 1))) by rw [HM.out, hr, List.drop_eq_nil_of_le (by have := HLN.out; omega)]; simp [rises])
          have HKZ := Lib.hid (HK.out.trans hky)
          have AA := B0.out.kept HKZ.out
          obtain ⟨r1, r2⟩ := cr_L sl c.st k hlt
          have d2 := cell_of AA r2
          have d2s : wr.cell? ⟨w.heap.size, 5 + k, none⟩ = some (.bool s) := by rw [d2, HSK.out]
          clear AA r1 r2 hr hm1 hm2 hky d2 HM D2
          obtain ⟨b1, b2⟩ := hlo; obtain ⟨b3, b4⟩ := hhi
          by_cases hz : t = 0
          · subst hz
            have HQ := Lib.hid (show mayC c = false from HN.out (by rw [HE.out, List.length_eq_zero_iff.1 HLN.out]; rfl))
            clear HE HN HY HLN
            go_wp2
            go_ret
            exact ⟨ret_bool HQ.out.symm, K0.out.trans HKZ.out⟩
          · have hzi : ¬ (t : Int) = 0 := by omega
            have HE2 := Lib.hid (show mf = (!s || decide ((t : Int) = Crn.hi k - lo k + 1)) by rw [HE.out]; cases l with | nil => exact absurd HLN.out.symm hz | cons a r => rfl)
            clear HE
            cases s with
            | false =>
              have HR := Lib.hid (HY.out (by rw [HE2.out]; rfl))
              clear HE2 HY HN
              go_wp2
              go_roundw
              case rel => exact ⟨HKZ.out, k + 1, hlt, by go_num, HR.out⟩
              case measure => simp [intOf]; omega
            | true =>
              by_cases he : (t : Int) = Crn.hi k - lo k + 1
              · have HR := Lib.hid (HY.out (by rw [HE2.out, decide_eq_true he]; rfl))
                have hne : ((t : Int) != Crn.hi k - lo k + 1) = false := by simpa using he
                clear HE2 HY HN
                have HHE := Lib.hid he; clear he
                go_wp2_with fail
                refine (high_any k hlt _).mono ?_
                rintro e y1 ⟨rfl, rfl⟩
                go_wp2_with fail
                refine (low_any k hlt _).mono ?_
                rintro e y1 ⟨rfl, rfl⟩
                go_wp2
                go_roundw
                case rel => exact ⟨HKZ.out, k + 1, hlt, by go_num, HR.out⟩
                case measure => simp [intOf]; omega
              · have HQ := Lib.hid (show mayC c = false from HN.out (by rw [HE2.out, decide_eq_false he]; rfl))
                have hne : ((t : Int) != Crn.hi k - lo k + 1) = true := by simpa using he
                clear HE2 HY HN
                go_wp2_with fail
                refine (high_any k hlt _).mono ?_
                rintro e y1 ⟨rfl, rfl⟩
                go_wp2_with fail
                refine (low_any k hlt _).mono ?_
                rintro e y1 ⟨rfl, rfl⟩
                go_wp2
                go_ret
                exact ⟨ret_bool HQ.out.symm, K0.out.trans HKZ.out⟩
    · obtain rfl : k = 5 := by omega
      have HR := Lib.hid (show mayC c = true from mayC_all (fun j hj => HF.out j hj))
      go_wp2
      go_ret
      exact ⟨ret_bool HR.out.symm, K0.out.trans HK.out⟩
end Go.Proofs.YtilgamjahediiaaGreatDoor
