/- The document's answer for package plain: a mark's name, up to where is hidden. -/
import Derived.Test.YtpkbcomdkamglaaGreatDoorPlRa
set_option linter.unusedSimpArgs false
set_option linter.unusedVariables false
namespace Go.Proofs.YtpkbcomdkamglaaGreatDoor.Pl
open Go.ChangeShapes Go.WideShapes Go.ChangeAt Go.RowKit
open En
theorem drop_cons {l : B} {i : Nat} {c : UInt8} (h : l[i]? = some c) : l.drop i = c :: l.drop (i + 1) := by
  obtain ⟨hi, rfl⟩ := List.getElem?_eq_some_iff.1 h
  exact List.drop_eq_getElem_cons hi
/-- a name, from a place on -/
theorem rname_from (l : B) (f : Nat) (w : World) (hf : f ≤ l.length) (hl : l.length ≤ 100000) : ∃ j, f + j ≤ l.length ∧ (l.drop f).takeWhile wdB = (l.drop f).take j ∧ (∀ k, k < j → ∃ c, l[f + k]? = some c ∧ wdB c = true) ∧ (∀ c, l[f + j]? = some c → wdB c = false) := by
  have key : ∀ (x : B), ∃ j, j ≤ x.length ∧ x.takeWhile wdB = x.take j ∧ (∀ k, k < j → ∃ c, x[k]? = some c ∧ wdB c = true) ∧ (∀ c, x[j]? = some c → wdB c = false) := by
    intro x
    induction x with
    | nil => exact ⟨0, Nat.le_refl _, rfl, fun k hk => by omega, fun c h => by simp at h⟩
    | cons a r ih =>
      by_cases h : wdB a = true
      · obtain ⟨j, h1, h2, h3, h4⟩ := ih
        refine ⟨j + 1, by simp; omega, by rw [List.takeWhile_cons, if_pos h, h2, List.take_succ_cons], fun k hk => ?_, fun c hc => h4 c (by simpa using hc)⟩
        cases k with
        | zero => exact ⟨a, rfl, h⟩
        | succ k => exact h3 k (by omega)
      · refine ⟨0, Nat.zero_le _, by rw [List.takeWhile_cons, if_neg h]; rfl, fun k hk => by omega, fun c hc => ?_⟩
        simp at hc; subst hc; simpa using h
  obtain ⟨j, h1, h2, h3, h4⟩ := key (l.drop f)
  rw [List.length_drop] at h1
  exact ⟨j, by omega, h2, fun k hk => by have := h3 k hk; rwa [List.getElem?_drop] at this, fun c hc => h4 c (by rwa [List.getElem?_drop])⟩
set_option maxRecDepth 100000 in
set_option maxHeartbeats 4000000 in
theorem rname_any (l : B) (i : Nat) (w : World) (hi : i + 1 < l.length) (hl : l.length ≤ 100000) : Calls Tryz.prog 37 #[.string ⟨l.toArray⟩, .int .i64 i] w fun e w' => e = .returned (.string ⟨(nam (l.drop (i + 1))).toArray⟩) ∧ Kept w w' := by
  obtain ⟨c, hc⟩ : ∃ c, l[i + 1]? = some c := ⟨_, List.getElem?_eq_getElem hi⟩
  have hat : ∀ hk, (ByteArray.mk l.toArray)[i + 1]'hk = c := byte_at l (i + 1) c hc
  have hcl : clo (l.drop (i + 1)) = (c == 47) := by rw [drop_cons hc]; rfl
  have h47 : ((c.toNat : Int) == 47) = (c == 47) := by rw [Bool.eq_iff_iff, beq_iff_eq, beq_iff_eq, ← UInt8.toNat_inj]; show _ ↔ c.toNat = 47; omega
  obtain ⟨f, hf, hfI, hcor⟩ : ∃ f : Nat, f ≤ l.length ∧ ((f : Int) = if (c == 47) = true then (i : Int) + 1 + 1 else (i : Int) + 1) ∧ cor (l.drop (i + 1)) = l.drop f := by
    cases hq : (c == 47) with
    | true => exact ⟨i + 2, by omega, by simp; omega, by unfold cor; rw [hcl, hq, if_pos rfl, List.drop_drop]⟩
    | false => exact ⟨i + 1, by omega, by simp, by unfold cor; rw [hcl, hq]; rfl⟩
  obtain ⟨j, hj, htw, hyes, hno⟩ := rname_from l f w hf hl
  have HN := Lib.hid (show nam (l.drop (i + 1)) = lo ((l.drop f).take j) by unfold nam; rw [hcor, htw])
  have HY := Lib.hid hyes
  have HNo := Lib.hid hno
  have hsl : ∀ W : World, (Instr.slice 9 (.string ⟨l.toArray⟩) (some (.int .i64 f)) (some (.int .i64 ((f : Int) + j))) none).run Tryz.prog W = .ok (.string ⟨((l.drop f).take j).toArray⟩) W := fun W => by
    have := cut_both l f (f + j) (by omega) hj W
    rw [show ((f + j : Nat) : Int) = (f : Int) + j by omega, List.drop_take, show f + j - f = j by omega] at this
    exact this
  have HS := Lib.hid (fun w => rsmall_any ((l.drop f).take j) w (by rw [List.length_take, List.length_drop]; omega))
  rw [show ((l.drop f).take j).map Lib.lowerB = lo ((l.drop f).take j) from rfl, ← HN.out] at HS
  clear hyes hno htw hcor hcl hc HN
  generalize nam (l.drop (i + 1)) = z at *
  generalize (l.drop f).take j = x at *
  cases hq : (c == 47) with
  | true =>
    rw [hq] at h47 hfI
    simp only [if_true] at hfI
    rw [hfI] at hsl
    go_enter Tryz.func37, Tryz.ntmps37
    go_wp2
    go_loopw [1] (fun vi wr => ∃ k : Nat, k ≤ j ∧ vi = .int .i64 ((i : Int) + 1 + 1 + k) ∧ wr = w) (fun vi _ => l.length - (intOf vi).toNat)
    case atStart => exact ⟨0, Nat.zero_le _, by simp, rfl⟩
    case round =>
      obtain ⟨k, hk, rfl, rfl⟩ := hrel
      by_cases hkj : k < j
      · obtain ⟨c1, hc1, hw1⟩ := HY.out k hkj
        have hlt : (i : Int) + 1 + 1 + k < (l.length : Int) := by omega
        have hat2 : ∀ hk, (ByteArray.mk l.toArray)[i + 1 + 1 + k]'hk = c1 := by
          have e : i + 1 + 1 + k = f + k := by omega
          intro hk2
          have := byte_at l (i + 1 + 1 + k) c1 (by rw [e]; exact hc1) hk2
          exact this
        have HW := Lib.hid (fun w => rword_any c1 w)
        rw [hw1] at HW
        clear hc1 hw1
        go_wp2_with (go_at_call 56; refine (HW.out _).mono ?_; rintro e w' ⟨rfl, rfl⟩)
        go_roundw
        case rel => exact ⟨k + 1, hkj, by go_num, trivial⟩
        case measure => simp [intOf]; omega
      · obtain rfl : k = j := by omega
        by_cases hlt : (i : Int) + 1 + 1 + k < (l.length : Int)
        · obtain ⟨c1, hc1⟩ : ∃ c1, l[f + k]? = some c1 := ⟨_, List.getElem?_eq_getElem (by omega)⟩
          have hw1 := HNo.out c1 hc1
          have hat2 : ∀ hk, (ByteArray.mk l.toArray)[i + 1 + 1 + k]'hk = c1 := by
            have e : i + 1 + 1 + k = f + k := by omega
            intro hk2
            have := byte_at l (i + 1 + 1 + k) c1 (by rw [e]; exact hc1) hk2
            exact this
          have HW := Lib.hid (fun w => rword_any c1 w)
          rw [hw1] at HW
          clear hc1 hw1
          go_wp2_with (first | (go_at_call 56; refine (HW.out _).mono ?_; rintro e w' ⟨rfl, rfl⟩) | fail)
          refine (HS.out _).mono ?_
          rintro e w2 ⟨rfl, k2⟩
          go_wp2
          go_ret
          exact ⟨rfl, k2⟩
        · go_wp2_with fail
          refine (HS.out _).mono ?_
          rintro e w2 ⟨rfl, k2⟩
          go_wp2
          go_ret
          exact ⟨rfl, k2⟩
  | false =>
    rw [hq] at h47 hfI
    simp only [Bool.false_eq_true, if_false] at hfI
    rw [hfI] at hsl
    go_enter Tryz.func37, Tryz.ntmps37
    go_wp2
    go_loopw [1] (fun vi wr => ∃ k : Nat, k ≤ j ∧ vi = .int .i64 ((i : Int) + 1 + k) ∧ wr = w) (fun vi _ => l.length - (intOf vi).toNat)
    case atStart => exact ⟨0, Nat.zero_le _, by simp, rfl⟩
    case round =>
      obtain ⟨k, hk, rfl, rfl⟩ := hrel
      by_cases hkj : k < j
      · obtain ⟨c1, hc1, hw1⟩ := HY.out k hkj
        have hlt : (i : Int) + 1 + k < (l.length : Int) := by omega
        have hat2 : ∀ hk, (ByteArray.mk l.toArray)[i + 1 + k]'hk = c1 := by
          have e : i + 1 + k = f + k := by omega
          intro hk2
          have := byte_at l (i + 1 + k) c1 (by rw [e]; exact hc1) hk2
          exact this
        have HW := Lib.hid (fun w => rword_any c1 w)
        rw [hw1] at HW
        clear hc1 hw1
        go_wp2_with (go_at_call 56; refine (HW.out _).mono ?_; rintro e w' ⟨rfl, rfl⟩)
        go_roundw
        case rel => exact ⟨k + 1, hkj, by go_num, trivial⟩
        case measure => simp [intOf]; omega
      · obtain rfl : k = j := by omega
        by_cases hlt : (i : Int) + 1 + k < (l.length : Int)
        · obtain ⟨c1, hc1⟩ : ∃ c1, l[f + k]? = some c1 := ⟨_, List.getElem?_eq_getElem (by omega)⟩
          have hw1 := HNo.out c1 hc1
          have hat2 : ∀ hk, (ByteArray.mk l.toArray)[i + 1 + k]'hk = c1 := by
            have e : i + 1 + k = f + k := by omega
            intro hk2
            have := byte_at l (i + 1 + k) c1 (by rw [e]; exact hc1) hk2
            exact this
          have HW := Lib.hid (fun w => rword_any c1 w)
          rw [hw1] at HW
          clear hc1 hw1
          go_wp2_with (first | (go_at_call 56; refine (HW.out _).mono ?_; rintro e w' ⟨rfl, rfl⟩) | fail)
          refine (HS.out _).mono ?_
          rintro e w2 ⟨rfl, k2⟩
          go_wp2
          go_ret
          exact ⟨rfl, k2⟩
        · go_wp2_with fail
          refine (HS.out _).mono ?_
          rintro e w2 ⟨rfl, k2⟩
          go_wp2
          go_ret
          exact ⟨rfl, k2⟩
/-! what is hidden -/
theorem low_sym {c : UInt8} (d : UInt8) (h1 : d.toNat < 65) : (Lib.lowerB c = d) ↔ c = d := by
  unfold Lib.lowerB Lib.isUpperB
  split
  · rename_i h
    simp only [Bool.and_eq_true, decide_eq_true_eq, UInt8.le_iff_toNat_le] at h
    have h2 : 65 ≤ c.toNat := h.1
    have h3 : c.toNat ≤ 90 := h.2
    constructor
    · intro e
      have := congrArg UInt8.toNat e
      rw [UInt8.toNat_add] at this
      have h4 : (32 : UInt8).toNat = 32 := rfl
      rw [h4] at this
      omega
    · intro e; rw [e] at h2; omega
  · exact Iff.rfl
theorem hit_lo (n x : B) (h : n.length + 2 ≤ x.length) : hit n x = (lo (x.take (n.length + 2)) == 60 :: 47 :: n) := by
  match x, h with
  | a :: b :: y, h =>
    unfold hit lo
    rw [Bool.eq_iff_iff]
    simp only [Bool.and_eq_true, beq_iff_eq, List.take_succ_cons, List.take_zero, List.drop_succ_cons, List.drop_zero, List.map_cons, List.cons.injEq, and_true]
    rw [low_sym 60 (by decide), low_sym 47 (by decide)]
    constructor
    · rintro ⟨⟨h1, h2⟩, h3⟩; exact ⟨h1, h2, h3⟩
    · rintro ⟨h1, h2, h3⟩; exact ⟨⟨h1, h2⟩, h3⟩
theorem hit_len {n x : B} (h : hit n x = true) : n.length + 2 ≤ x.length := by
  unfold hit at h
  simp only [Bool.and_eq_true, beq_iff_eq] at h
  have h1 := congrArg List.length h.1
  have h2 := congrArg List.length h.2
  unfold lo at h2
  rw [List.length_map, List.length_take, List.length_drop] at h2
  rw [List.length_take] at h1
  simp at h1
  omega
theorem skp_short (n : B) : ∀ (x : B), x.length < n.length + 2 → skp n x = []
  | [], _ => rfl
  | c :: r, h => by
    have : hit n (c :: r) = false := by
      cases hq : hit n (c :: r) with
      | false => rfl
      | true => have := hit_len hq; omega
    rw [skp, if_neg (by rw [this]; decide), skp_short n r (by simp at h; omega)]
set_option maxRecDepth 100000 in
set_option maxHeartbeats 4000000 in
theorem rhidden_any (l n : B) (i : Nat) (w : World) (hi : i ≤ l.length) (hl : l.length ≤ 100000) (hn : n.length ≤ 100000) : Calls Tryz.prog 38 #[.string ⟨l.toArray⟩, .int .i64 i, .string ⟨n.toArray⟩] w fun e w' => (∃ p : Nat, e = .returned (.int .i64 p) ∧ i ≤ p ∧ p ≤ l.length ∧ l.drop p = skp n (l.drop i)) ∧ Kept w w' := by
  have happ : (⟨#[60, 47]⟩ ++ ⟨n.toArray⟩ : ByteArray) = ⟨(60 :: 47 :: n).toArray⟩ := by rw [show (⟨#[60, 47]⟩ : ByteArray) = ⟨([60, 47] : B).toArray⟩ from rfl, app_mk]; rfl
  have hel : (60 :: 47 :: n : B).length = n.length + 2 := rfl
  have hsz : (ByteArray.mk (60 :: 47 :: n : B).toArray).size = n.length + 2 := List.size_toArray
  have hbig : ¬ (9223372036854775807 : Nat) < 2 + n.length := by omega
  go_enter Tryz.func38, Tryz.ntmps38
  go_wp2
  generalize hen : (60 :: 47 :: n : B) = en at *
  have HEn := Lib.hid hen
  have HEl := Lib.hid (show en.length = n.length + 2 from hel)
  have hel3 : 2 ≤ en.length := by rw [HEl.out]; omega
  have hel4 : en.length ≤ 100002 := by rw [HEl.out]; omega
  clear hen hel hsz happ hbig
  go_loopw [8] (fun vi wr => ∃ k : Nat, i ≤ k ∧ k ≤ l.length ∧ vi = .int .i64 k ∧ Hid (skp n (l.drop i) = skp n (l.drop k)) ∧ Hid (Kept w wr)) (fun vi _ => l.length - (intOf vi).toNat)
  case atStart => exact ⟨i, Nat.le_refl _, hi, rfl, Lib.hid rfl, Lib.hid (Kept.refl _)⟩
  case round =>
    obtain ⟨k, hik, hk, rfl, hS, hK⟩ := hrel
    by_cases hlt : k + en.length ≤ l.length
    · have hltI : (k : Int) + en.length ≤ l.length := by omega
      have hsl : ∀ W : World, (Instr.slice 9 (.string ⟨l.toArray⟩) (some (.int .i64 k)) (some (.int .i64 ((k : Int) + en.length))) none).run Tryz.prog W = .ok (.string ⟨((l.drop k).take en.length).toArray⟩) W := fun W => by
        have := cut_both l k (k + en.length) (by omega) hlt W
        rw [show ((k + en.length : Nat) : Int) = (k : Int) + en.length by omega, List.drop_take, show k + en.length - k = en.length by omega] at this
        exact this
      have HH := Lib.hid (show hit n (l.drop k) = (lo ((l.drop k).take en.length) == en) by
        rw [hit_lo n (l.drop k) (by have := HEl.out; rw [List.length_drop]; omega), HEl.out, HEn.out])
      have HSm := Lib.hid (fun w => rsmall_any ((l.drop k).take en.length) w (by rw [List.length_take, List.length_drop]; omega))
      rw [show ((l.drop k).take en.length).map Lib.lowerB = lo ((l.drop k).take en.length) from rfl] at HSm
      have HA := Lib.hid (skp_at (n := n) (show k < l.length by omega))
      generalize lo ((l.drop k).take en.length) = y at *
      generalize (l.drop k).take en.length = x at *
      cases hq : (y == en) with
      | true =>
        have HR := Lib.hid (show l.drop k = skp n (l.drop i) by rw [hS.out, HA.out, HH.out, hq]; rfl)
        clear hS HA HH
        go_wp2_with fail
        refine (HSm.out _).mono ?_
        rintro e w2 ⟨rfl, k2⟩
        have K2 := Lib.hid (hK.out.trans k2)
        clear k2
        go_wp2
        go_ret
        exact ⟨⟨k, rfl, hik, hk, HR.out⟩, K2.out⟩
      | false =>
        have HR := Lib.hid (show skp n (l.drop i) = skp n (l.drop (k + 1)) by rw [hS.out, HA.out, HH.out, hq]; rfl)
        clear hS HA HH
        go_wp2_with fail
        refine (HSm.out _).mono ?_
        rintro e w2 ⟨rfl, k2⟩
        have K2 := Lib.hid (hK.out.trans k2)
        clear k2
        go_wp2
        go_roundw
        case rel => exact ⟨k + 1, by omega, by omega, by go_num, HR, K2⟩
        case measure => simp [intOf]; omega
    · have hltI : ¬ (k : Int) + en.length ≤ l.length := by omega
      have HR := Lib.hid (show l.drop l.length = skp n (l.drop i) by rw [hS.out, skp_short n _ (by have := HEl.out; rw [List.length_drop]; omega), List.drop_length])
      clear hS
      go_wp2
      go_ret
      exact ⟨⟨l.length, rfl, hi, Nat.le_refl _, HR.out⟩, hK.out⟩
end Go.Proofs.YtpkbcomdkamglaaGreatDoor.Pl
