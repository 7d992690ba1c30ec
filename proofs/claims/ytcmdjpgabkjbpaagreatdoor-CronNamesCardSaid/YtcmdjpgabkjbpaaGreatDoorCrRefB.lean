/- Contracts of the document's answer for package cron: parts of a text. -/
import Derived.Test.YtcmdjpgabkjbpaaGreatDoorCrRefA
import Derived.Test.YtcmdjpgabkjbpaaGreatDoorCrSame
set_option linter.unusedVariables false
namespace Go.Proofs.YtcmdjpgabkjbpaaGreatDoor
open Go.ChangeShapes Go.WideShapes Go.ChangeAt Go.RowKit
open Crn
def nmV (f : Nat) (l : List UInt8) : Int := if l.length = 3 then (nm f l).getD (-1) else -1
set_option maxRecDepth 100000 in
set_option maxHeartbeats 1000000 in
theorem rnamed_any (f : Nat) (l : List UInt8) (w : World) (hl : l.length ≤ 1000) : Calls Tryz.prog 68 #[.string ⟨l.toArray⟩, .string ⟨(nms f).toArray⟩, .int .i64 (lo f)] w fun e w' => e = .returned (.int .i64 (nmV f l)) ∧ Kept w w' := by
  obtain ⟨hN, h3⟩ := nms_len f
  have hlo := lo_bd f
  by_cases hl3 : l.length = 3
  · have HV := Lib.hid (show nmV f l = (fnd (nms f) (l.map Lib.lowerB) (lo f)).getD (-1) by rw [nmV, if_pos hl3]; rfl)
    generalize hLo : lo f = L at *
    generalize hNm : nms f = N at *
    clear hNm hLo
    go_enter Tryz.func68, Tryz.ntmps68
    go_wp2_with fail
    refine (rsmall_any l _ hl).mono ?_
    rintro e x ⟨rfl, k1⟩
    generalize l.map Lib.lowerB = t at *
    go_wp2_with fail
    go_loopw [8] (fun i wx => wx = x ∧ ∃ k : Nat, i = .int .i64 k ∧ 3 * k ≤ N.length ∧ fnd N t L = fnd (N.drop (3 * k)) t (L + k)) (fun i _ => 36 - (intOf i).toNat)
    case atStart => exact ⟨rfl, 0, rfl, by omega, by simp⟩
    case round =>
      obtain ⟨rfl, k, rfl, hk, hf⟩ := hrel
      have HF := Lib.hid hf; clear hf
      by_cases hlt : 3 * k < N.length
      · have hk3 : 3 * k + 3 ≤ N.length := by omega
        have hx : (ByteArray.mk N.toArray).extract (3 * k) (3 * k + 3) = ⟨((N.drop (3 * k)).take 3).toArray⟩ := by rw [extract_mk]; congr 3; omega
        have hs := fnd_step N t k (L + k) hk3
        by_cases he : (N.drop (3 * k)).take 3 = t
        · rw [if_pos he] at hs
          have HS := Lib.hid (HF.out.trans hs); clear hs
          go_wp2
          go_ret
          rw [HV.out, HS.out]
          exact ⟨rfl, k1⟩
        · rw [if_neg he] at hs
          have HS := Lib.hid (HF.out.trans hs); clear hs
          have hb : ((N.drop (3 * k)).take 3 == t) = false := beq_eq_false_iff_ne.2 he
          clear he
          go_wp2
          go_roundw
          case rel => exact ⟨trivial, k + 1, by go_num, by omega, by rw [HS.out]; congr 1; omega⟩
          case measure => simp [intOf]; omega
      · have HS := Lib.hid (show fnd N t L = none by rw [HF.out, List.drop_eq_nil_of_le (by omega)]; rfl)
        go_wp2
        go_ret
        rw [HV.out, HS.out]
        exact ⟨rfl, k1⟩
  · have HV := Lib.hid (show nmV f l = -1 by rw [nmV, if_neg hl3])
    go_enter Tryz.func68, Tryz.ntmps68
    go_wp2
    go_ret
    rw [HV.out]; exact ⟨rfl, Kept.refl _⟩
def numV (f : Nat) (l : List UInt8) : Int := (Crn.tok f l).getD (-1)
theorem dgV_ge (l : List UInt8) : -1 ≤ dgV l ∧ dgV l ≤ 99 := by
  unfold dgV
  cases hd : digs l with
  | none => simp
  | some n => rcases digs_some hd with ⟨a, _, ha, rfl⟩ | ⟨a, b, _, ha, hb, rfl⟩
              · have := dv_bd ha; simp; omega
              · have := dv_bd ha; have := dv_bd hb; simp; omega
theorem numV_dig {f : Nat} {l : List UInt8} (h : 0 ≤ dgV l) : numV f l = if lo f ≤ dgV l ∧ dgV l ≤ wr f then dgV l else -1 := by
  unfold numV Crn.tok
  unfold dgV at h ⊢
  cases hd : digs l with
  | none => rw [hd] at h; simp at h
  | some n => simp only; split <;> rfl
theorem numV_nm {f : Nat} {l : List UInt8} (h : ¬ 0 ≤ dgV l) : numV f l = nmV f l := by
  unfold numV Crn.tok nmV
  unfold dgV at h
  cases hd : digs l with
  | some n =>
    rw [hd] at h
    rcases digs_some hd with ⟨a, _, ha, rfl⟩ | ⟨a, b, _, ha, hb, rfl⟩
    · have := dv_bd ha; simp at h; omega
    · have := dv_bd ha; have := dv_bd hb; simp at h; omega
  | none => simp only; split <;> rfl
theorem nmV_bd (f : Nat) (l : List UInt8) : nmV f l = -1 ∨ (lo f ≤ nmV f l ∧ nmV f l ≤ hi f) := by
  unfold nmV
  split
  · cases h : nm f l with
    | none => exact Or.inl rfl
    | some n => exact Or.inr (nm_bd h)
  · exact Or.inl rfl
theorem nmV_none (f : Nat) (h3 : f ≠ 3) (h4 : f ≠ 4) (l : List UInt8) : nmV f l = -1 := by
  have e : nms f = [] := by unfold nms; split <;> first | rfl | omega
  unfold nmV nm
  rw [e]; split <;> rfl
set_option maxRecDepth 100000 in
set_option maxHeartbeats 1000000 in
theorem rnum_0 (l : List UInt8) (w : World) (hl : l.length ≤ 1000) : Calls Tryz.prog 53 #[.int .i64 (0 : Nat), .string ⟨l.toArray⟩] w fun e w' => e = .returned (.int .i64 (numV 0 l)) ∧ Kept w w' := by
  have hdg := dgV_ge l
  have ew : wr 0 = 59 := rfl
  have el : lo 0 = 0 := rfl
  have eh : hi 0 = 59 := rfl
  by_cases hd : 0 ≤ dgV l
  · have HV := Lib.hid (numV_dig (f := 0) hd)
    have hn : ¬ dgV l < 0 := by omega
    generalize hD : dgV l = d at *
    have HD := Lib.hid hD; clear hD
    by_cases g1 : d < lo 0
    · have HR := Lib.hid (show numV 0 l = -1 by rw [HV.out, if_neg (by omega)])
      go_enter Tryz.func53, Tryz.ntmps53
      go_wp2_with (first | (go_at_call 52; refine (rdigits_any l _ hl).mono ?_; rintro e w' ⟨rfl, rfl⟩; rw [HD.out]) | (go_at_call 33; refine (high_any 0 (by omega) _).mono ?_; rintro e w' ⟨rfl, rfl⟩) | (go_at_call 32; refine (low_any 0 (by omega) _).mono ?_; rintro e w' ⟨rfl, rfl⟩))
      all_goals (go_ret; exact ⟨ret_int HR.out.symm, Kept.refl _⟩)
    · by_cases g2 : hi 0 < d
      · have HR := Lib.hid (show numV 0 l = -1 by rw [HV.out, if_neg (by omega)])
        go_enter Tryz.func53, Tryz.ntmps53
        go_wp2_with (first | (go_at_call 52; refine (rdigits_any l _ hl).mono ?_; rintro e w' ⟨rfl, rfl⟩; rw [HD.out]) | (go_at_call 33; refine (high_any 0 (by omega) _).mono ?_; rintro e w' ⟨rfl, rfl⟩) | (go_at_call 32; refine (low_any 0 (by omega) _).mono ?_; rintro e w' ⟨rfl, rfl⟩))
        all_goals (go_ret; exact ⟨ret_int HR.out.symm, Kept.refl _⟩)
      · have HR := Lib.hid (show numV 0 l = d by rw [HV.out, if_pos (by omega)])
        go_enter Tryz.func53, Tryz.ntmps53
        go_wp2_with (first | (go_at_call 52; refine (rdigits_any l _ hl).mono ?_; rintro e w' ⟨rfl, rfl⟩; rw [HD.out]) | (go_at_call 33; refine (high_any 0 (by omega) _).mono ?_; rintro e w' ⟨rfl, rfl⟩) | (go_at_call 32; refine (low_any 0 (by omega) _).mono ?_; rintro e w' ⟨rfl, rfl⟩))
        all_goals (go_ret; exact ⟨ret_int HR.out.symm, Kept.refl _⟩)
  · have HV := Lib.hid (numV_nm (f := 0) hd)
    have hn : dgV l < 0 := by omega
    have HR := Lib.hid (show numV 0 l = -1 by rw [HV.out, nmV_none 0 (by omega) (by omega)])
    generalize hD : dgV l = d at *
    have HD := Lib.hid hD; clear hD
    have g1 : d < lo 0 := by omega
    go_enter Tryz.func53, Tryz.ntmps53
    go_wp2_with (first | (go_at_call 52; refine (rdigits_any l _ hl).mono ?_; rintro e w' ⟨rfl, rfl⟩; rw [HD.out]) | (go_at_call 33; refine (high_any 0 (by omega) _).mono ?_; rintro e w' ⟨rfl, rfl⟩) | (go_at_call 32; refine (low_any 0 (by omega) _).mono ?_; rintro e w' ⟨rfl, rfl⟩))
    all_goals (go_ret; exact ⟨ret_int HR.out.symm, Kept.refl _⟩)
set_option maxRecDepth 100000 in
set_option maxHeartbeats 1000000 in
theorem rnum_1 (l : List UInt8) (w : World) (hl : l.length ≤ 1000) : Calls Tryz.prog 53 #[.int .i64 (1 : Nat), .string ⟨l.toArray⟩] w fun e w' => e = .returned (.int .i64 (numV 1 l)) ∧ Kept w w' := by
  have hdg := dgV_ge l
  have ew : wr 1 = 23 := rfl
  have el : lo 1 = 0 := rfl
  have eh : hi 1 = 23 := rfl
  by_cases hd : 0 ≤ dgV l
  · have HV := Lib.hid (numV_dig (f := 1) hd)
    have hn : ¬ dgV l < 0 := by omega
    generalize hD : dgV l = d at *
    have HD := Lib.hid hD; clear hD
    by_cases g1 : d < lo 1
    · have HR := Lib.hid (show numV 1 l = -1 by rw [HV.out, if_neg (by omega)])
      go_enter Tryz.func53, Tryz.ntmps53
      go_wp2_with (first | (go_at_call 52; refine (rdigits_any l _ hl).mono ?_; rintro e w' ⟨rfl, rfl⟩; rw [HD.out]) | (go_at_call 33; refine (high_any 1 (by omega) _).mono ?_; rintro e w' ⟨rfl, rfl⟩) | (go_at_call 32; refine (low_any 1 (by omega) _).mono ?_; rintro e w' ⟨rfl, rfl⟩))
      all_goals (go_ret; exact ⟨ret_int HR.out.symm, Kept.refl _⟩)
    · by_cases g2 : hi 1 < d
      · have HR := Lib.hid (show numV 1 l = -1 by rw [HV.out, if_neg (by omega)])
        go_enter Tryz.func53, Tryz.ntmps53
        go_wp2_with (first | (go_at_call 52; refine (rdigits_any l _ hl).mono ?_; rintro e w' ⟨rfl, rfl⟩; rw [HD.out]) | (go_at_call 33; refine (high_any 1 (by omega) _).mono ?_; rintro e w' ⟨rfl, rfl⟩) | (go_at_call 32; refine (low_any 1 (by omega) _).mono ?_; rintro e w' ⟨rfl, rfl⟩))
        all_goals (go_ret; exact ⟨ret_int HR.out.symm, Kept.refl _⟩)
      · have HR := Lib.hid (show numV 1 l = d by rw [HV.out, if_pos (by omega)])
        go_enter Tryz.func53, Tryz.ntmps53
        go_wp2_with (first | (go_at_call 52; refine (rdigits_any l _ hl).mono ?_; rintro e w' ⟨rfl, rfl⟩; rw [HD.out]) | (go_at_call 33; refine (high_any 1 (by omega) _).mono ?_; rintro e w' ⟨rfl, rfl⟩) | (go_at_call 32; refine (low_any 1 (by omega) _).mono ?_; rintro e w' ⟨rfl, rfl⟩))
        all_goals (go_ret; exact ⟨ret_int HR.out.symm, Kept.refl _⟩)
  · have HV := Lib.hid (numV_nm (f := 1) hd)
    have hn : dgV l < 0 := by omega
    have HR := Lib.hid (show numV 1 l = -1 by rw [HV.out, nmV_none 1 (by omega) (by omega)])
    generalize hD : dgV l = d at *
    have HD := Lib.hid hD; clear hD
    have g1 : d < lo 1 := by omega
    go_enter Tryz.func53, Tryz.ntmps53
    go_wp2_with (first | (go_at_call 52; refine (rdigits_any l _ hl).mono ?_; rintro e w' ⟨rfl, rfl⟩; rw [HD.out]) | (go_at_call 33; refine (high_any 1 (by omega) _).mono ?_; rintro e w' ⟨rfl, rfl⟩) | (go_at_call 32; refine (low_any 1 (by omega) _).mono ?_; rintro e w' ⟨rfl, rfl⟩))
    all_goals (go_ret; exact ⟨ret_int HR.out.symm, Kept.refl _⟩)
set_option maxRecDepth 100000 in
set_option maxHeartbeats 1000000 in
theorem rnum_2 (l : List UInt8) (w : World) (hl : l.length ≤ 1000) : Calls Tryz.prog 53 #[.int .i64 (2 : Nat), .string ⟨l.toArray⟩] w fun e w' => e = .returned (.int .i64 (numV 2 l)) ∧ Kept w w' := by
  have hdg := dgV_ge l
  have ew : wr 2 = 31 := rfl
  have el : lo 2 = 1 := rfl
  have eh : hi 2 = 31 := rfl
  by_cases hd : 0 ≤ dgV l
  · have HV := Lib.hid (numV_dig (f := 2) hd)
    have hn : ¬ dgV l < 0 := by omega
    generalize hD : dgV l = d at *
    have HD := Lib.hid hD; clear hD
    by_cases g1 : d < lo 2
    · have HR := Lib.hid (show numV 2 l = -1 by rw [HV.out, if_neg (by omega)])
      go_enter Tryz.func53, Tryz.ntmps53
      go_wp2_with (first | (go_at_call 52; refine (rdigits_any l _ hl).mono ?_; rintro e w' ⟨rfl, rfl⟩; rw [HD.out]) | (go_at_call 33; refine (high_any 2 (by omega) _).mono ?_; rintro e w' ⟨rfl, rfl⟩) | (go_at_call 32; refine (low_any 2 (by omega) _).mono ?_; rintro e w' ⟨rfl, rfl⟩))
      all_goals (go_ret; exact ⟨ret_int HR.out.symm, Kept.refl _⟩)
    · by_cases g2 : hi 2 < d
      · have HR := Lib.hid (show numV 2 l = -1 by rw [HV.out, if_neg (by omega)])
        go_enter Tryz.func53, Tryz.ntmps53
        go_wp2_with (first | (go_at_call 52; refine (rdigits_any l _ hl).mono ?_; rintro e w' ⟨rfl, rfl⟩; rw [HD.out]) | (go_at_call 33; refine (high_any 2 (by omega) _).mono ?_; rintro e w' ⟨rfl, rfl⟩) | (go_at_call 32; refine (low_any 2 (by omega) _).mono ?_; rintro e w' ⟨rfl, rfl⟩))
        all_goals (go_ret; exact ⟨ret_int HR.out.symm, Kept.refl _⟩)
      · have HR := Lib.hid (show numV 2 l = d by rw [HV.out, if_pos (by omega)])
        go_enter Tryz.func53, Tryz.ntmps53
        go_wp2_with (first | (go_at_call 52; refine (rdigits_any l _ hl).mono ?_; rintro e w' ⟨rfl, rfl⟩; rw [HD.out]) | (go_at_call 33; refine (high_any 2 (by omega) _).mono ?_; rintro e w' ⟨rfl, rfl⟩) | (go_at_call 32; refine (low_any 2 (by omega) _).mono ?_; rintro e w' ⟨rfl, rfl⟩))
        all_goals (go_ret; exact ⟨ret_int HR.out.symm, Kept.refl _⟩)
  · have HV := Lib.hid (numV_nm (f := 2) hd)
    have hn : dgV l < 0 := by omega
    have HR := Lib.hid (show numV 2 l = -1 by rw [HV.out, nmV_none 2 (by omega) (by omega)])
    generalize hD : dgV l = d at *
    have HD := Lib.hid hD; clear hD
    have g1 : d < lo 2 := by omega
    go_enter Tryz.func53, Tryz.ntmps53
    go_wp2_with (first | (go_at_call 52; refine (rdigits_any l _ hl).mono ?_; rintro e w' ⟨rfl, rfl⟩; rw [HD.out]) | (go_at_call 33; refine (high_any 2 (by omega) _).mono ?_; rintro e w' ⟨rfl, rfl⟩) | (go_at_call 32; refine (low_any 2 (by omega) _).mono ?_; rintro e w' ⟨rfl, rfl⟩))
    all_goals (go_ret; exact ⟨ret_int HR.out.symm, Kept.refl _⟩)
set_option maxRecDepth 100000 in
set_option maxHeartbeats 1000000 in
theorem rnum_3 (l : List UInt8) (w : World) (hl : l.length ≤ 1000) : Calls Tryz.prog 53 #[.int .i64 (3 : Nat), .string ⟨l.toArray⟩] w fun e w' => e = .returned (.int .i64 (numV 3 l)) ∧ Kept w w' := by
  have hdg := dgV_ge l
  have ew : wr 3 = 12 := rfl
  have el : lo 3 = 1 := rfl
  have eh : hi 3 = 12 := rfl
  by_cases hd : 0 ≤ dgV l
  · have HV := Lib.hid (numV_dig (f := 3) hd)
    have hn : ¬ dgV l < 0 := by omega
    generalize hD : dgV l = d at *
    have HD := Lib.hid hD; clear hD
    by_cases g1 : d < lo 3
    · have HR := Lib.hid (show numV 3 l = -1 by rw [HV.out, if_neg (by omega)])
      go_enter Tryz.func53, Tryz.ntmps53
      go_wp2_with (first | (go_at_call 52; refine (rdigits_any l _ hl).mono ?_; rintro e w' ⟨rfl, rfl⟩; rw [HD.out]) | (go_at_call 33; refine (high_any 3 (by omega) _).mono ?_; rintro e w' ⟨rfl, rfl⟩) | (go_at_call 32; refine (low_any 3 (by omega) _).mono ?_; rintro e w' ⟨rfl, rfl⟩))
      all_goals (go_ret; exact ⟨ret_int HR.out.symm, Kept.refl _⟩)
    · by_cases g2 : hi 3 < d
      · have HR := Lib.hid (show numV 3 l = -1 by rw [HV.out, if_neg (by omega)])
        go_enter Tryz.func53, Tryz.ntmps53
        go_wp2_with (first | (go_at_call 52; refine (rdigits_any l _ hl).mono ?_; rintro e w' ⟨rfl, rfl⟩; rw [HD.out]) | (go_at_call 33; refine (high_any 3 (by omega) _).mono ?_; rintro e w' ⟨rfl, rfl⟩) | (go_at_call 32; refine (low_any 3 (by omega) _).mono ?_; rintro e w' ⟨rfl, rfl⟩))
        all_goals (go_ret; exact ⟨ret_int HR.out.symm, Kept.refl _⟩)
      · have HR := Lib.hid (show numV 3 l = d by rw [HV.out, if_pos (by omega)])
        go_enter Tryz.func53, Tryz.ntmps53
        go_wp2_with (first | (go_at_call 52; refine (rdigits_any l _ hl).mono ?_; rintro e w' ⟨rfl, rfl⟩; rw [HD.out]) | (go_at_call 33; refine (high_any 3 (by omega) _).mono ?_; rintro e w' ⟨rfl, rfl⟩) | (go_at_call 32; refine (low_any 3 (by omega) _).mono ?_; rintro e w' ⟨rfl, rfl⟩))
        all_goals (go_ret; exact ⟨ret_int HR.out.symm, Kept.refl _⟩)
  · have HV := Lib.hid (numV_nm (f := 3) hd)
    have hn : dgV l < 0 := by omega
    have hb := nmV_bd 3 l
    generalize hM : nmV 3 l = m at *
    have HM := Lib.hid hM; clear hM
    generalize hD : dgV l = d at *
    have HD := Lib.hid hD; clear hD
    by_cases g1 : m < lo 3
    · have HR := Lib.hid (show numV 3 l = -1 by rw [HV.out]; omega)
      go_enter Tryz.func53, Tryz.ntmps53
      go_wp2_with (first | (go_at_call 52; refine (rdigits_any l _ hl).mono ?_; rintro e w' ⟨rfl, rfl⟩; rw [HD.out]) | (go_at_call 33; refine (high_any 3 (by omega) _).mono ?_; rintro e w' ⟨rfl, rfl⟩) | (go_at_call 32; refine (low_any 3 (by omega) _).mono ?_; rintro e w' ⟨rfl, rfl⟩) | (go_at_call 68; refine (rnamed_any 3 l _ hl).mono ?_; rintro e w' ⟨rfl, hk'⟩; rw [HM.out]))
      all_goals (go_ret; exact ⟨ret_int HR.out.symm, by assumption⟩)
    · have g2 : ¬ hi 3 < m := by omega
      have HR := Lib.hid HV.out
      go_enter Tryz.func53, Tryz.ntmps53
      go_wp2_with (first | (go_at_call 52; refine (rdigits_any l _ hl).mono ?_; rintro e w' ⟨rfl, rfl⟩; rw [HD.out]) | (go_at_call 33; refine (high_any 3 (by omega) _).mono ?_; rintro e w' ⟨rfl, rfl⟩) | (go_at_call 32; refine (low_any 3 (by omega) _).mono ?_; rintro e w' ⟨rfl, rfl⟩) | (go_at_call 68; refine (rnamed_any 3 l _ hl).mono ?_; rintro e w' ⟨rfl, hk'⟩; rw [HM.out]))
      all_goals (go_ret; exact ⟨ret_int HR.out.symm, by assumption⟩)
set_option maxRecDepth 100000 in
set_option maxHeartbeats 1000000 in
theorem rnum_4 (l : List UInt8) (w : World) (hl : l.length ≤ 1000) : Calls Tryz.prog 53 #[.int .i64 (4 : Nat), .string ⟨l.toArray⟩] w fun e w' => e = .returned (.int .i64 (numV 4 l)) ∧ Kept w w' := by
  have hdg := dgV_ge l
  have ew : wr 4 = 7 := rfl
  have el : lo 4 = 0 := rfl
  have eh : hi 4 = 6 := rfl
  by_cases hd : 0 ≤ dgV l
  · have HV := Lib.hid (numV_dig (f := 4) hd)
    have hn : ¬ dgV l < 0 := by omega
    generalize hD : dgV l = d at *
    have HD := Lib.hid hD; clear hD
    by_cases g1 : d < lo 4
    · have HR := Lib.hid (show numV 4 l = -1 by rw [HV.out, if_neg (by omega)])
      go_enter Tryz.func53, Tryz.ntmps53
      go_wp2_with (first | (go_at_call 52; refine (rdigits_any l _ hl).mono ?_; rintro e w' ⟨rfl, rfl⟩; rw [HD.out]) | (go_at_call 33; refine (high_any 4 (by omega) _).mono ?_; rintro e w' ⟨rfl, rfl⟩) | (go_at_call 32; refine (low_any 4 (by omega) _).mono ?_; rintro e w' ⟨rfl, rfl⟩))
      all_goals (go_ret; exact ⟨ret_int HR.out.symm, Kept.refl _⟩)
    · by_cases g2 : 7 < d
      · have HR := Lib.hid (show numV 4 l = -1 by rw [HV.out, if_neg (by omega)])
        go_enter Tryz.func53, Tryz.ntmps53
        go_wp2_with (first | (go_at_call 52; refine (rdigits_any l _ hl).mono ?_; rintro e w' ⟨rfl, rfl⟩; rw [HD.out]) | (go_at_call 33; refine (high_any 4 (by omega) _).mono ?_; rintro e w' ⟨rfl, rfl⟩) | (go_at_call 32; refine (low_any 4 (by omega) _).mono ?_; rintro e w' ⟨rfl, rfl⟩))
        all_goals (go_ret; exact ⟨ret_int HR.out.symm, Kept.refl _⟩)
      · have HR := Lib.hid (show numV 4 l = d by rw [HV.out, if_pos (by omega)])
        go_enter Tryz.func53, Tryz.ntmps53
        go_wp2_with (first | (go_at_call 52; refine (rdigits_any l _ hl).mono ?_; rintro e w' ⟨rfl, rfl⟩; rw [HD.out]) | (go_at_call 33; refine (high_any 4 (by omega) _).mono ?_; rintro e w' ⟨rfl, rfl⟩) | (go_at_call 32; refine (low_any 4 (by omega) _).mono ?_; rintro e w' ⟨rfl, rfl⟩))
        all_goals (go_ret; exact ⟨ret_int HR.out.symm, Kept.refl _⟩)
  · have HV := Lib.hid (numV_nm (f := 4) hd)
    have hn : dgV l < 0 := by omega
    have hb := nmV_bd 4 l
    generalize hM : nmV 4 l = m at *
    have HM := Lib.hid hM; clear hM
    generalize hD : dgV l = d at *
    have HD := Lib.hid hD; clear hD
    by_cases g1 : m < lo 4
    · have HR := Lib.hid (show numV 4 l = -1 by rw [HV.out]; omega)
      go_enter Tryz.func53, Tryz.ntmps53
      go_wp2_with (first | (go_at_call 52; refine (rdigits_any l _ hl).mono ?_; rintro e w' ⟨rfl, rfl⟩; rw [HD.out]) | (go_at_call 33; refine (high_any 4 (by omega) _).mono ?_; rintro e w' ⟨rfl, rfl⟩) | (go_at_call 32; refine (low_any 4 (by omega) _).mono ?_; rintro e w' ⟨rfl, rfl⟩) | (go_at_call 68; refine (rnamed_any 4 l _ hl).mono ?_; rintro e w' ⟨rfl, hk'⟩; rw [HM.out]))
      all_goals (go_ret; exact ⟨ret_int HR.out.symm, by assumption⟩)
    · have g2 : ¬ 7 < m := by omega
      have HR := Lib.hid HV.out
      go_enter Tryz.func53, Tryz.ntmps53
      go_wp2_with (first | (go_at_call 52; refine (rdigits_any l _ hl).mono ?_; rintro e w' ⟨rfl, rfl⟩; rw [HD.out]) | (go_at_call 33; refine (high_any 4 (by omega) _).mono ?_; rintro e w' ⟨rfl, rfl⟩) | (go_at_call 32; refine (low_any 4 (by omega) _).mono ?_; rintro e w' ⟨rfl, rfl⟩) | (go_at_call 68; refine (rnamed_any 4 l _ hl).mono ?_; rintro e w' ⟨rfl, hk'⟩; rw [HM.out]))
      all_goals (go_ret; exact ⟨ret_int HR.out.symm, by assumption⟩)
theorem rnumber_any (f : Nat) (hf : f < 5) (l : List UInt8) (w : World) (hl : l.length ≤ 1000) : Calls Tryz.prog 53 #[.int .i64 f, .string ⟨l.toArray⟩] w fun e w' => e = .returned (.int .i64 (numV f l)) ∧ Kept w w' := by
  rcases (show f = 0 ∨ f = 1 ∨ f = 2 ∨ f = 3 ∨ f = 4 by omega) with rfl | rfl | rfl | rfl | rfl
  · exact rnum_0 l w hl
  · exact rnum_1 l w hl
  · exact rnum_2 l w hl
  · exact rnum_3 l w hl
  · exact rnum_4 l w hl
end Go.Proofs.YtcmdjpgabkjbpaaGreatDoor
