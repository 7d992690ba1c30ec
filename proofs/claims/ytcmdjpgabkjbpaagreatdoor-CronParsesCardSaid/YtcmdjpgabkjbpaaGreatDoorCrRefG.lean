/- The document's own answers of package cron: whether two schedules are the same. -/
import Derived.Test.YtcmdjpgabkjbpaaGreatDoorCrEq
import Derived.BigQuiet
set_option linter.unusedVariables false
namespace Go.Proofs.YtcmdjpgabkjbpaaGreatDoor
open Go.ChangeShapes Go.WideShapes Go.ChangeAt Go.RowKit
open Crn
set_option maxRecDepth 100000 in
set_option maxHeartbeats 2000000 in
theorem rsame_any (a b : CR) (sa sb : Nat → Value) (w : World) (ha : Cr w sa a.L) (hb : Cr w sb b.L) : Calls Tryz.prog 13 #[crV sa a.st, crV sb b.st] w fun e w' => e = .returned (.bool (decide (SameP a b))) ∧ Kept w w' := by
  have k0 := ((Kept.refl w).alloc (.cells (cr10 sa a.st) 27)).alloc (.cells (cr10 sb b.st) 27)
  have A0 := Lib.hid ((Cb.new sa a.st w).kept ((Kept.refl _).alloc (.cells (cr10 sb b.st) 27)))
  have B0 := Lib.hid (show Cb (w.heap.size + 1) sb b.st _ by simpa using Cb.new sb b.st (w.alloc (.cells (cr10 sa a.st) 27)))
  have CA := Lib.hid (ha.kept k0); have CB := Lib.hid (hb.kept k0)
  have K0 := Lib.hid k0
  clear ha hb k0
  go_enter Tryz.func13, Tryz.ntmps13
  go_upto_region 1 with (fail)
  generalize (w.alloc (.cells (cr10 sa a.st) 27)).alloc (.cells (cr10 sb b.st) 27) = x at *
  go_wp2_with fail
  go_loopw [5, 6] (fun i _ y => Kept x y ∧ ∃ k : Nat, k ≤ 5 ∧ i = .int .i64 k ∧ ∀ j, j < k → a.L j = b.L j ∧ a.st j = b.st j) (fun i _ _ => 5 - (intOf i).toNat)
  case atStart => exact ⟨Kept.refl _, 0, by omega, rfl, fun j hj => absurd hj (by omega)⟩
  case round =>
    obtain ⟨hkx, k, hk, rfl, hf⟩ := hrel
    have HF := Lib.hid hf; have HK := Lib.hid hkx
    clear hf
    by_cases hlt : k < 5
    · have AA := A0.out.kept hkx; have BB := B0.out.kept hkx
      obtain ⟨r1, r2⟩ := cr_L sa a.st k hlt
      obtain ⟨r3, r4⟩ := cr_L sb b.st k hlt
      have d1 := cell_of AA r1
      have d2 := cell_of AA r2
      have d3 := cell_of BB r3
      have d4 := cell_of BB r4
      have ra := Lib.hid ((CA.out.kept hkx) k hlt); have rb := Lib.hid ((CB.out.kept hkx) k hlt)
      clear AA BB r1 r2 r3 r4 hkx
      obtain ⟨a1, c1, e1⟩ := ra.out.slice
      obtain ⟨a2, c2, e2⟩ := rb.out.slice
      have n1 := ra.out.len; have n2 := rb.out.len
      unfold maxLen at n1 n2
      generalize hl1 : a.L k = l1 at *
      generalize hl2 : b.L k = l2 at *
      generalize hs1 : a.st k = s1 at *
      generalize hs2 : b.st k = s2 at *
      rw [e1] at d1; rw [e2] at d3
      have HL1 := Lib.hid hl1; have HL2 := Lib.hid hl2; have HS1 := Lib.hid hs1; have HS2 := Lib.hid hs2
      clear hl1 hl2 hs1 hs2
      generalize hn1 : l1.length = m1 at *
      generalize hn2 : l2.length = m2 at *
      by_cases hn : m1 = m2
      · obtain rfl : m2 = m1 := hn.symm
        clear hn
        have hd' : ((m2 : Int) != (m2 : Int)) = false := by simp
        go_upto_region 4 with (fail)
        go_quiet (fail)
        rename_i nq
        have KW := Lib.hid (HK.out.trans ((Kept.refl wr).drewN nq))
        generalize wr.drewN nq = W1 at *
        by_cases hs : s1 = s2
        · have HS := Lib.hid hs
          have hb1 : (!s1 == s2) = false := by subst hs; cases s1 <;> rfl
          have hb2 : (s1 != s2) = false := by subst hs; cases s1 <;> rfl
          clear d1 d2 d3 d4 hs
          rw [hb1]
          clear hb1 hb2
          go_wp2_with fail
          go_loopw [6] (fun j y => Kept W1 y ∧ ∃ t : Nat, t ≤ m2 ∧ j = .int .i64 t ∧ ∀ i, i < t → l1[i]? = l2[i]?) (fun j _ => m2 - (intOf j).toNat)
          case atStart => exact ⟨Kept.refl _, 0, by omega, rfl, fun j hj => absurd hj (by omega)⟩
          case round =>
            obtain ⟨hky, t, ht, rfl, hi⟩ := hrel
            have HI := Lib.hid hi; have KY := Lib.hid (KW.out.trans hky); have HKY := Lib.hid hky
            have AA := A0.out.kept KY.out; have BB := B0.out.kept KY.out
            obtain ⟨r1, r2⟩ := cr_L sa a.st k hlt
            obtain ⟨r3, r4⟩ := cr_L sb b.st k hlt
            have d1 := cell_of AA r1
            have d3 := cell_of BB r3
            rw [e1] at d1; rw [e2] at d3
            clear AA BB r1 r2 r3 r4 hi hky
            by_cases hlt2 : t < m2
            · have hti : (t : Int) < (m2 : Int) := by omega
              have ht0 : (0 : Int) ≤ (t : Int) := by omega
              go_upto_region 9 with (fail)
              have ra2 := (CA.out.kept KY.out) k hlt
              have rb2 := (CB.out.kept KY.out) k hlt
              rw [HL1.out, e1] at ra2
              rw [HL2.out, e2] at rb2
              obtain ⟨p1, o1, x1, q1, _, g1⟩ := ra2.at (k := t) (by omega)
              obtain ⟨p2, o2, x2, q2, _, g2⟩ := rb2.at (k := t) (by omega)
              simp only [Value.slice.injEq] at q1 q2
              obtain ⟨q1, -, -⟩ := q1
              obtain ⟨q2, -, -⟩ := q2
              have Q1 := Lib.hid q1; have Q2 := Lib.hid q2
              clear q1 q2
              obtain ⟨z1, hz1⟩ : ∃ z, l1[t]? = some z := ⟨_, List.getElem?_eq_getElem (by omega)⟩
              obtain ⟨z2, hz2⟩ : ∃ z, l2[t]? = some z := ⟨_, List.getElem?_eq_getElem (by omega)⟩
              have f1 := g1 t z1 hz1
              have f2 := g2 t z2 hz2
              have Z1 := Lib.hid hz1; have Z2 := Lib.hid hz2
              clear g1 g2 hz1 hz2 ra2 rb2
              by_cases hv : z1 = z2
              · have HV := Lib.hid hv
                subst hv
                clear e1 e2
                have q1 := Q1.out; have q2 := Q2.out
                clear Q1 Q2
                subst q1; subst q2
                go_quiet (fail)
                go_wp2
                go_roundw
                case rel => exact ⟨HKY.out.trans ((Kept.refl _).drewN _), t + 1, hlt2, by go_num, fun i hi => if h : i = t then (by subst h; rw [Z1.out, Z2.out, HV.out]) else HI.out i (by omega)⟩
                case measure => simp [intOf]; omega
              · have HR := Lib.hid (show decide (SameP a b) = false from decide_eq_false (fun h => by have := (h k hlt).1; rw [HL1.out, HL2.out] at this; rw [this, Z2.out] at Z1; exact hv (Option.some.inj Z1.out).symm))
                have hvd : (z1 != z2) = true := by simpa using hv
                clear e1 e2
                have q1 := Q1.out; have q2 := Q2.out
                clear Q1 Q2
                subst q1; subst q2
                go_quiet (fail)
                go_wp2
                go_ret
                exact ⟨ret_bool HR.out.symm, K0.out.trans (KY.out.trans ((Kept.refl _).drewN _))⟩
            · obtain rfl : t = m2 := by omega
              have HL := Lib.hid (show l1 = l2 from List.ext_getElem? (fun i => if h : i < t then HI.out i h else by rw [List.getElem?_eq_none (by omega), List.getElem?_eq_none (by omega)]))
              have HR := Lib.hid (show ∀ j, j < k + 1 → a.L j = b.L j ∧ a.st j = b.st j from fun j hj => if h : j = k then (by subst h; rw [HL1.out, HL2.out, HS1.out, HS2.out]; exact ⟨HL.out, HS.out⟩) else HF.out j (by omega))
              go_wp2
              go_roundw
              case rel => exact ⟨KY.out, k + 1, hlt, by go_num, HR.out⟩
              case measure => simp [intOf]; omega
        · have HR := Lib.hid (show decide (SameP a b) = false from decide_eq_false (fun h => by have := (h k hlt).2; rw [HS1.out, HS2.out] at this; exact hs this))
          have hb1 : (!s1 == s2) = true := by cases s1 <;> cases s2 <;> simp_all
          rw [hb1]
          clear hb1 d1 d2 d3 d4
          go_wp2
          go_ret
          exact ⟨ret_bool HR.out.symm, K0.out.trans KW.out⟩
      · have hd : ¬ (m1 : Int) = (m2 : Int) := by omega
        have hd' : ((m1 : Int) != (m2 : Int)) = true := by simpa using hd
        have HR := Lib.hid (show decide (SameP a b) = false from decide_eq_false (fun h => by have := (h k hlt).1; rw [HL1.out, HL2.out] at this; rw [this] at hn1; omega))
        go_upto_region 4 with (fail)
        go_quiet (fail)
        go_wp2
        go_ret
        exact ⟨ret_bool HR.out.symm, K0.out.trans (HK.out.trans ((Kept.refl wr).drewN _))⟩
    · obtain rfl : k = 5 := by omega
      have HR := Lib.hid (show decide (SameP a b) = true from decide_eq_true (fun j hj => HF.out j hj))
      go_wp2
      go_ret
      exact ⟨ret_bool HR.out.symm, K0.out.trans HK.out⟩
end Go.Proofs.YtcmdjpgabkjbpaaGreatDoor
