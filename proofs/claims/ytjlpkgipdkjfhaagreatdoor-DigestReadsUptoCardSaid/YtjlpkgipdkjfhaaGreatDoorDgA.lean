import Derived.Test.YtjlpkgipdkjfhaaGreatDoorHe
import Derived.Test.YtjlpkgipdkjfhaaGreatDoorTc
import Derived.Test.YtjlpkgipdkjfhaaGreatDoorDa
set_option linter.unusedSimpArgs false
set_option linter.unusedVariables false
namespace Go.Proofs.YtjlpkgipdkjfhaaGreatDoor.Bk.Dg
open Go.ChangeShapes Go.WideShapes Go.ChangeAt Go.RowKit Go.Shelf
open Go.Proofs.YtjlpkgipdkjfhaaGreatDoor.Dg
open Pt (drop_cons)
theorem nm4 {c : UInt8} : (c = 46 ∨ c = 45 ∨ c = 95 ∨ c = 43) ↔ (c.toNat = 46 ∨ c.toNat = 45 ∨ c.toNat = 95 ∨ c.toNat = 43) := by
  rw [← UInt8.toNat_inj, ← UInt8.toNat_inj, ← UInt8.toNat_inj, ← UInt8.toNat_inj]; exact Iff.rfl
theorem nm_cases (c : UInt8) : nmC c = true ∧ (c.toNat = 46 ∨ c.toNat = 45 ∨ c.toNat = 95 ∨ c.toNat = 43) ∨ (¬ (c.toNat = 46 ∨ c.toNat = 45 ∨ c.toNat = 95 ∨ c.toNat = 43) ∧ nmC c = (decide (97 ≤ (c.toNat : Int) ∧ (c.toNat : Int) ≤ 122) || (decide (65 ≤ (c.toNat : Int) ∧ (c.toNat : Int) ≤ 90) || decide (48 ≤ (c.toNat : Int) ∧ (c.toNat : Int) ≤ 57)))) := by
  by_cases h : (c.toNat = 46 ∨ c.toNat = 45 ∨ c.toNat = 95 ∨ c.toNat = 43)
  · refine Or.inl ⟨?_, h⟩
    unfold nmC
    rw [decide_eq_true (nm4.2 h)]
    rfl
  · refine Or.inr ⟨h, ?_⟩
    unfold nmC
    rw [decide_eq_false (show ¬ (c = 46 ∨ c = 45 ∨ c = 95 ∨ c = 43) from fun e => h (nm4.1 e)), Bool.false_or]
    congr 1
    · exact decide_eq_decide.2 (by omega)
    · congr 1
      · exact decide_eq_decide.2 (by omega)
      · exact decide_eq_decide.2 (by omega)
set_option maxRecDepth 100000 in
set_option maxHeartbeats 1000000 in
theorem mayName_any (c : UInt8) (w : World) : Calls Tryz.prog 99 #[.int .u8 c.toNat] w fun e w' => e = .returned (.bool (nmC c)) ∧ w' = w := by
  rcases nm_cases c with ⟨hm, h⟩ | ⟨h, hm⟩
  · rw [hm]
    have hI : ((c.toNat : Int) = 46 ∨ (c.toNat : Int) = 45 ∨ (c.toNat : Int) = 95 ∨ (c.toNat : Int) = 43) := by omega
    clear hm h
    rcases hI with h | h | h | h
    all_goals
      rw [h]
      go_enter Tryz.func99, Tryz.ntmps99
      go_wp2
      go_ret
      exact ⟨rfl, rfl⟩
  · have h1 : ¬ (c.toNat : Int) = 46 := by omega
    have h2 : ¬ (c.toNat : Int) = 45 := by omega
    have h3 : ¬ (c.toNat : Int) = 95 := by omega
    have h4 : ¬ (c.toNat : Int) = 43 := by omega
    have HM := Lib.hid hm
    clear hm h
    generalize (c.toNat : Int) = n at *
    by_cases a1 : 97 ≤ n
    · by_cases a2 : n ≤ 122
      · have HZ := Lib.hid (show nmC c = true by rw [HM.out, decide_eq_true (show 97 ≤ n ∧ n ≤ 122 from ⟨a1, a2⟩)]; rfl)
        go_enter Tryz.func99, Tryz.ntmps99
        go_wp2
        go_ret
        exact ⟨eb_ret HZ.out.symm, rfl⟩
      · have a3 : 65 ≤ n := by omega
        have a4 : ¬ n ≤ 90 := by omega
        have a5 : 48 ≤ n := by omega
        have a6 : ¬ n ≤ 57 := by omega
        have HZ := Lib.hid (show nmC c = false by rw [HM.out, decide_eq_false (show ¬ (97 ≤ n ∧ n ≤ 122) by omega), decide_eq_false (show ¬ (65 ≤ n ∧ n ≤ 90) by omega), decide_eq_false (show ¬ (48 ≤ n ∧ n ≤ 57) by omega)]; rfl)
        go_enter Tryz.func99, Tryz.ntmps99
        go_wp2
        go_ret
        exact ⟨eb_ret HZ.out.symm, rfl⟩
    · by_cases a3 : 65 ≤ n
      · by_cases a4 : n ≤ 90
        · have HZ := Lib.hid (show nmC c = true by rw [HM.out, decide_eq_true (show 65 ≤ n ∧ n ≤ 90 from ⟨a3, a4⟩), Bool.true_or, Bool.or_true])
          go_enter Tryz.func99, Tryz.ntmps99
          go_wp2
          go_ret
          exact ⟨eb_ret HZ.out.symm, rfl⟩
        · have a5 : 48 ≤ n := by omega
          have a6 : ¬ n ≤ 57 := by omega
          have HZ := Lib.hid (show nmC c = false by rw [HM.out, decide_eq_false (show ¬ (97 ≤ n ∧ n ≤ 122) by omega), decide_eq_false (show ¬ (65 ≤ n ∧ n ≤ 90) by omega), decide_eq_false (show ¬ (48 ≤ n ∧ n ≤ 57) by omega)]; rfl)
          go_enter Tryz.func99, Tryz.ntmps99
          go_wp2
          go_ret
          exact ⟨eb_ret HZ.out.symm, rfl⟩
      · by_cases a5 : 48 ≤ n
        · have HZ := Lib.hid (show nmC c = decide (n ≤ 57) by
            rw [HM.out, decide_eq_false (show ¬ (97 ≤ n ∧ n ≤ 122) by omega), decide_eq_false (show ¬ (65 ≤ n ∧ n ≤ 90) by omega), Bool.false_or, Bool.false_or]
            exact decide_eq_decide.2 (by omega))
          go_enter Tryz.func99, Tryz.ntmps99
          go_wp2
          go_ret
          exact ⟨eb_ret HZ.out.symm, rfl⟩
        · have HZ := Lib.hid (show nmC c = false by rw [HM.out, decide_eq_false (show ¬ (97 ≤ n ∧ n ≤ 122) by omega), decide_eq_false (show ¬ (65 ≤ n ∧ n ≤ 90) by omega), decide_eq_false (show ¬ (48 ≤ n ∧ n ≤ 57) by omega)]; rfl)
          go_enter Tryz.func99, Tryz.ntmps99
          go_wp2
          go_ret
          exact ⟨eb_ret HZ.out.symm, rfl⟩
set_option maxRecDepth 100000 in
set_option maxHeartbeats 4000000 in
theorem isName_any (s : B) (w : World) (hl : s.length ≤ 140737488351232) : Calls Tryz.prog 52 #[sV s] w fun e w' => e = .returned (.bool (nmS s)) ∧ Kept w w' := by
  have hss : (ByteArray.mk s.toArray).size = s.length := List.size_toArray
  obtain ⟨cp, y, hcv, ky, hy⟩ := to_bytes s w
  have KY := Lib.hid ky
  have HY := Lib.hid hy
  have HP := Lib.hid (fun (i : Nat) (c : UInt8) (h : s[i]? = some c) => hy.at h)
  clear hy ky
  generalize w.heap.size = kb at *
  go_enter Tryz.func52, Tryz.ntmps52
  go_wp2_with fail
  go_loopw [4, 8] (fun _ vi wr => ∃ (i : Nat), i ≤ s.length ∧ vi = .int .i64 i ∧ Hid (nmS s = ((s.drop i).all nmC && !s.isEmpty)) ∧ wr = y) (fun _ vi _ => s.length - (intOf vi).toNat)
  case atStart => exact ⟨0, Nat.zero_le _, rfl, Lib.hid rfl, rfl⟩
  case round =>
    obtain ⟨i, hi, rfl, hK, rfl⟩ := hrel
    by_cases hlt : i < s.length
    · have hltI : (i : Int) < s.length := by omega
      obtain ⟨c, hc⟩ : ∃ c, s[i]? = some c := ⟨_, List.getElem?_eq_getElem hlt⟩
      obtain ⟨g, o, cc, hv, hcp, c0⟩ := HP.out i c hc
      cases hv
      rw [Nat.zero_add] at c0
      have HS := Lib.hid (show (s.drop i).all nmC = (nmC c && (s.drop (i + 1)).all nmC) by rw [drop_cons hc, List.all_cons])
      have HC := Lib.hid (mayName_any c)
      clear hc
      go_wp2_with fail
      refine (HC.out _).mono ?_
      rintro e x ⟨rfl, rfl⟩
      cases hm : nmC c with
      | false =>
        have HF := Lib.hid (show nmS s = false by rw [hK.out, HS.out, hm, Bool.false_and, Bool.false_and])
        clear hm
        go_wp2
        go_ret
        exact ⟨eb_ret HF.out.symm, KY.out⟩
      | true =>
        have HM := Lib.hid hm
        clear hm
        go_wp2
        go_roundw
        case rel => exact ⟨i + 1, hlt, by go_num, Lib.hid (by rw [hK.out, HS.out, HM.out, Bool.true_and]), by first | rfl | exact trivial⟩
        case measure => simp [intOf]; omega
    · have hltI : ¬ (i : Int) < s.length := by omega
      have HE := Lib.hid (show nmS s = !s.isEmpty by rw [hK.out, List.drop_eq_nil_of_le (by omega)]; rfl)
      clear hK
      cases hem : s.isEmpty with
      | true =>
        have HM := Lib.hid hem
        go_wp2
        go_ret
        exact ⟨eb_ret (by rw [HE.out, HM.out]; rfl), KY.out⟩
      | false =>
        have HM := Lib.hid hem
        go_wp2
        go_ret
        exact ⟨eb_ret (by rw [HE.out, HM.out]; rfl), KY.out⟩
set_option maxRecDepth 100000 in
set_option maxHeartbeats 4000000 in
theorem isAddress_any (s : B) (w : World) (hE : Env w) (hl : s.length ≤ 1000000000) : Calls Tryz.prog 24 #[sV s] w fun e w' => e = .returned (.bool (adr s)) ∧ Kept w w' := by
  have hc1 : (Lib.cut s [64]).1.length ≤ s.length := by unfold Lib.cut; split <;> simp <;> omega
  have hc2 : (Lib.cut s [64]).2.1.length ≤ s.length := by unfold Lib.cut; split <;> simp <;> omega
  have HA := Lib.hid (show adr s = ((nmS (Lib.cut s [64]).1 && nmS (Lib.cut s [64]).2.1) && decide (s.length ≤ 60)) from rfl)
  have HC := Lib.hid (Hd.cutAt_any s [64] w hE (by omega))
  generalize hx : Lib.cut s [64] = x at *
  obtain ⟨u, h, b⟩ := x
  have N1 := Lib.hid (fun w => isName_any u w (by have : u.length ≤ s.length := hc1; omega))
  have N2 := Lib.hid (fun w => isName_any h w (by have : h.length ≤ s.length := hc2; omega))
  have hss : (ByteArray.mk s.toArray).size = s.length := List.size_toArray
  clear hx hc1 hc2
  go_enter Tryz.func24, Tryz.ntmps24
  go_wp2_with fail
  refine HC.out.mono ?_
  rintro e w1 ⟨rfl, k1⟩
  have K1 := Lib.hid k1
  clear k1
  go_wp2_with fail
  refine (N1.out _).mono ?_
  rintro e w2 ⟨rfl, k2⟩
  have K2 := Lib.hid (K1.out.trans k2)
  clear k2
  cases h1 : nmS u with
  | false =>
    have HZ := Lib.hid (show adr s = false by rw [HA.out]; show ((nmS u && nmS h) && _) = false; rw [h1, Bool.false_and, Bool.false_and])
    clear h1
    go_wp2
    go_ret
    exact ⟨eb_ret HZ.out.symm, K2.out⟩
  | true =>
    have H1 := Lib.hid h1
    clear h1
    go_wp2_with fail
    refine (N2.out _).mono ?_
    rintro e w3 ⟨rfl, k3⟩
    have K3 := Lib.hid (K2.out.trans k3)
    clear k3
    cases h2 : nmS h with
    | false =>
      have HZ := Lib.hid (show adr s = false by rw [HA.out]; show ((nmS u && nmS h) && _) = false; rw [h2, Bool.and_false, Bool.false_and])
      clear h2
      go_wp2
      go_ret
      exact ⟨eb_ret HZ.out.symm, K3.out⟩
    | true =>
      have HZ := Lib.hid (show adr s = decide (s.length ≤ 60) by rw [HA.out]; show ((nmS u && nmS h) && _) = _; rw [H1.out, h2]; rfl)
      clear h2
      go_wp2
      go_ret
      exact ⟨eb_ret (by rw [HZ.out]; exact decide_eq_decide.2 (by omega)), K3.out⟩
end Go.Proofs.YtjlpkgipdkjfhaaGreatDoor.Bk.Dg
