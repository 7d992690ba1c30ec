/- The law EntTrim, walked (given package ent's contracts). -/
import Derived.Test.YtbpkpmgfbapfpaaDoorEnAw
import Derived.BigQuiet
set_option linter.unusedVariables false
namespace Go.Proofs.YtbpkpmgfbapfpaaDoor
open Go.ChangeShapes Go.WideShapes Go.ChangeAt Go.RowKit
open En
theorem spB_ne {a : UInt8} (h : spB a = false) : ((a.toNat : Int) == 32) = false := beq_eq_false_iff_ne.2 fun e => by
  have q : a.toNat = 32 := by omega
  unfold spB at h; rw [q] at h; simp at h
theorem drop_at' {l : List UInt8} {k : Nat} {a : UInt8} (h : l[k]? = some a) : l.drop k = a :: l.drop (k + 1) := by
  obtain ⟨hk, rfl⟩ := List.getElem?_eq_some_iff.1 h
  exact List.drop_eq_getElem_cons hk
theorem get_of_drop {x r : List UInt8} {k : Nat} {a : UInt8} (h : x.drop k = a :: r) : x[k]? = some a ∧ k < x.length ∧ x.drop (k + 1) = r := by
  have h0 : x[k]? = some a := by rw [← List.head?_drop, h]; rfl
  refine ⟨h0, (List.getElem?_eq_some_iff.1 h0).1, ?_⟩
  have := drop_at' h0
  rw [h] at this
  exact (List.cons.inj this).2.symm
set_option maxRecDepth 100000 in
set_option maxHeartbeats 8000000 in
theorem trim7_walk {I : World → Prop} (H : EntC I) (s : List UInt8) (w : World) (hl : s.length ≤ maxLen) (hI : I w) : Calls Tryd.prog 7 #[.string ⟨s.toArray⟩] w fun e w' => e = .returned (.bool true) ∧ Kept w w' := by
  unfold maxLen at hl
  have H := Lib.hid H
  have I0 := Lib.hid hI
  have K0 := Lib.hid (Kept.refl w)
  clear hI
  go_enter Tryd.func7, Tryd.ntmps7
  go_wp2_with fail
  refine (awake7_any H.out _ I0.out).mono ?_
  rintro e x1 ⟨rfl, k1⟩
  have K1 := Lib.hid (K0.out.trans k1); have I1 := Lib.hid (H.out.stays _ _ I0.out k1)
  clear k1 K0 I0
  by_cases hs : 600 < (s.length : Int)
  · go_wp2
    go_ret
    exact ⟨rfl, K1.out⟩
  have hl6 : s.length ≤ 600 := by omega
  have lx : (tr s).length ≤ 2 * s.length := trF_len s false false
  have HTT := Lib.hid (tr_tr s)
  have HX0 := Lib.hid (show tr s = trF false false s from rfl)
  have HAT := Lib.hid (tr_at s)
  go_wp2_with fail
  refine (H.out.trim s _ I1.out (by omega)).mono ?_
  rintro e x2 ⟨rfl, k2⟩
  have K2 := Lib.hid (K1.out.trans k2); have I2 := Lib.hid (H.out.stays _ _ I1.out k2)
  clear k2 K1 I1
  generalize tr s = x at *
  go_wp2_with fail
  refine (H.out.trim x _ I2.out (by omega)).mono ?_
  rintro e x3 ⟨rfl, k3⟩
  have K3 := Lib.hid (K2.out.trans k3); have I3 := Lib.hid (H.out.stays _ _ I2.out k3)
  clear k3 K2 I2
  rw [HTT.out]
  clear HTT hs hl
  go_wp2_with fail
  go_loopw [5, 6] (fun kk i y => ∃ (k j : Nat) (st gp : Bool), kk = .int .i64 k ∧ i = .int .i64 j ∧ j ≤ s.length ∧ k ≤ x.length ∧ x.drop k = trF st gp (s.drop j) ∧ Kept w y ∧ I y) (fun _ i _ => s.length - (intOf i).toNat)
  case atStart => exact ⟨0, 0, false, false, rfl, rfl, Nat.zero_le _, Nat.zero_le _, HX0.out, K3.out, I3.out⟩
  case round =>
    obtain ⟨k, j, st, gp, rfl, rfl, hj, hk, hd, kk, ii⟩ := hrel
    have HD := Lib.hid hd
    have K4 := Lib.hid kk; have I4 := Lib.hid ii
    clear hd kk ii
    by_cases hlt : j < s.length
    · obtain ⟨a, ha⟩ : ∃ a, s[j]? = some a := ⟨_, List.getElem?_eq_getElem hlt⟩
      have hat := byte_at s j a ha
      have HS := Lib.hid (drop_at' ha)
      clear ha
      cases hsp : spB a with
      | true =>
        have HD2 := Lib.hid (show x.drop k = trF st st (s.drop (j + 1)) by rw [HD.out, HS.out, trF_sp hsp])
        go_wp2_with fail
        refine (H.out.space a _ I4.out).mono ?_
        rintro e x5 ⟨rfl, k5⟩
        have K5 := Lib.hid (K4.out.trans k5); have I5 := Lib.hid (H.out.stays _ _ I4.out k5)
        clear k5 K4 I4
        rw [hsp]
        clear HD HS hsp
        go_wp2
        go_roundw
        case rel => exact ⟨k, j + 1, st, st, rfl, by go_num, hlt, hk, HD2.out, K5.out, I5.out⟩
        case measure => simp [intOf]; omega
      | false =>
        have HD2 := Lib.hid (show x.drop k = (if gp = true then [32, a] else [a]) ++ trF true false (s.drop (j + 1)) by rw [HD.out, HS.out, trF_no hsp])
        have HNE := Lib.hid (spB_ne hsp)
        generalize hrest : trF true false (s.drop (j + 1)) = rest at *
        have HREST := Lib.hid hrest
        clear hrest
        go_wp2_with fail
        refine (H.out.space a _ I4.out).mono ?_
        rintro e x5 ⟨rfl, k5⟩
        have K5 := Lib.hid (K4.out.trans k5); have I5 := Lib.hid (H.out.stays _ _ I4.out k5)
        clear k5 K4 I4
        rw [hsp]
        clear HD HS hsp
        go_wp2_with fail
        go_loopw [5] (fun v y => y = x5 ∧ ∃ (m : Nat) (g : Bool), v = .int .i64 m ∧ m ≤ x.length ∧ x.drop m = (if g = true then [32, a] else [a]) ++ rest) (fun v _ => x.length - (intOf v).toNat)
        case atStart => exact ⟨rfl, k, gp, rfl, hk, HD2.out⟩
        case round =>
          obtain ⟨rfl, m, g, rfl, hm, hdm⟩ := hrel
          clear HD2
          cases g with
          | true =>
            obtain ⟨q1, q2, q3⟩ := get_of_drop (show x.drop m = 32 :: (a :: rest) from hdm)
            have hat2 := byte_at x m 32 q1
            have HQ := Lib.hid q3
            clear q1 q3 hdm
            go_wp2
            go_roundw
            case rel => exact ⟨trivial, m + 1, false, by go_num, q2, HQ.out⟩
            case measure => simp [intOf]; omega
          | false =>
            obtain ⟨q1, q2, q3⟩ := get_of_drop (show x.drop m = a :: rest from hdm)
            have hat2 := byte_at x m a q1
            have HQ := Lib.hid q3
            have hne := HNE.out
            have hgt : decide ((x.length : Int) ≤ (m : Int)) = false := by simp; omega
            clear q1 q3 hdm HNE
            go_upto_region 14 with (fail)
            go_quiet (fail)
            go_wp2
            go_roundw
            case rel => exact ⟨m + 1, j + 1, true, false, by go_num, by go_num, hlt, q2, by rw [HQ.out, HREST.out], K5.out.trans ((Kept.refl _).drewN _), H.out.stays _ _ I5.out ((Kept.refl _).drewN _)⟩
            case measure => simp [intOf]; omega
    · obtain rfl : j = s.length := by omega
      have hkx : k = x.length := by
        have h := HD.out
        rw [List.drop_eq_nil_of_le (Nat.le_refl _)] at h
        have h2 := congrArg List.length h
        rw [List.length_drop] at h2
        simp [trF] at h2
        omega
      subst hkx
      clear HD
      go_wp2_with fail
      go_loopw [7] (fun v y => ∃ t : Nat, v = .int .i64 t ∧ t ≤ x.length ∧ Kept w y ∧ I y) (fun v _ => x.length - (intOf v).toNat)
      case atStart => exact ⟨0, rfl, Nat.zero_le _, K4.out, I4.out⟩
      case round =>
        obtain ⟨t, rfl, ht, kk, ii⟩ := hrel
        clear K4 I4
        have K4 := Lib.hid kk; have I4 := Lib.hid ii
        clear kk ii
        by_cases hlt : t < x.length
        · obtain ⟨c, hc⟩ : ∃ c, x[t]? = some c := ⟨_, List.getElem?_eq_getElem hlt⟩
          have hat := byte_at x t c hc
          cases hsp : spB c with
          | true =>
            obtain ⟨rfl, g1, g2, g3⟩ := HAT.out t c hc hsp
            obtain ⟨d, hd⟩ : ∃ d, x[t - 1]? = some d := ⟨_, List.getElem?_eq_getElem (by omega)⟩
            have hne := spB_ne (g3 d hd)
            have h0 : ((t : Int) == 0) = false := by simp; omega
            have h1 : ((t : Int) == (x.length : Int) - 1) = false := by simp; omega
            have htn : ((t : Int) - 1).toNat = t - 1 := by omega
            have hat2 := byte_at x (t - 1) d hd
            have t1 : 1 ≤ (t : Int) := by omega
            clear hc hd g3 g1
            go_wp2_with fail
            refine (H.out.space 32 _ I4.out).mono ?_
            rintro e x5 ⟨rfl, k5⟩
            have K5 := Lib.hid (K4.out.trans k5); have I5 := Lib.hid (H.out.stays _ _ I4.out k5)
            clear k5 K4 I4
            rw [hsp]
            clear hsp
            go_wp2
            go_roundw
            case rel => exact ⟨t + 1, by go_num, hlt, K5.out, I5.out⟩
            case measure => simp [intOf]; omega
          | false =>
            clear hc
            go_wp2_with fail
            refine (H.out.space c _ I4.out).mono ?_
            rintro e x5 ⟨rfl, k5⟩
            have K5 := Lib.hid (K4.out.trans k5); have I5 := Lib.hid (H.out.stays _ _ I4.out k5)
            clear k5 K4 I4
            rw [hsp]
            clear hsp
            go_wp2
            go_roundw
            case rel => exact ⟨t + 1, by go_num, hlt, K5.out, I5.out⟩
            case measure => simp [intOf]; omega
        · obtain rfl : t = x.length := by omega
          go_wp2
          go_ret
          exact ⟨rfl, K4.out⟩
end Go.Proofs.YtbpkpmgfbapfpaaDoor
