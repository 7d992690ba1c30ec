/- Contracts of the document's reader of zones: numbers. -/
import Derived.Test.YtomnjdammfiadaaDoorZnRRd
import Derived.IntWalk
namespace Go.Proofs.YtomnjdammfiadaaDoor
open Go.ChangeShapes Go.WideShapes Go.ChangeAt Go.RowKit
open Zn
theorem take6 {l : List UInt8} {j : Nat} (ha : (l.take j).all dgt = true) (hj : j ≤ 6) (hs : j = 6 ∨ stp dgt (l.drop j) = true) : (l.takeWhile dgt).take 6 = l.take j := by
  have e : l.takeWhile dgt = l.take j ++ (l.drop j).takeWhile dgt := by
    conv => lhs; rw [← List.take_append_drop j l]
    rw [List.takeWhile_append_of_pos (by simpa using ha)]
  rcases hs with rfl | hs
  · rw [e]
    by_cases h : 6 ≤ l.length
    · rw [List.take_append_of_le_length (by rw [List.length_take]; omega), List.take_take]; simp
    · rw [List.drop_of_length_le (by omega)]; simp [List.take_take]
  · have : (l.drop j).takeWhile dgt = [] := by
      cases hd : l.drop j with
      | nil => rfl
      | cons c r => rw [hd] at hs; simp [stp] at hs; simp [hs]
    rw [e, this, List.append_nil, List.take_take, Nat.min_eq_right hj]
theorem numR_eq {l : List UInt8} {j : Nat} (ha : (l.take j).all dgt = true) (hj : j ≤ 6) (hl : j ≤ l.length) (hs : j = 6 ∨ stp dgt (l.drop j) = true) : numR l = (nv (l.take j), l.drop j, decide (j = 0)) := by
  unfold numR
  rw [take6 ha hj hs]
  refine Prod.ext rfl (Prod.ext ?_ ?_)
  · show l.drop (l.take j).length = _
    rw [List.length_take, Nat.min_eq_left hl]
  · show (l.take j).isEmpty = _
    rw [Bool.eq_iff_iff]
    simp [List.isEmpty_iff]
    intro e; subst e; simp at hl; exact hl
theorem step_at {l r : List UInt8} {j : Nat} {c : UInt8} (h : l.drop j = c :: r) : l.take (j + 1) = l.take j ++ [c] ∧ l.drop (j + 1) = r ∧ j < l.length := by
  have hl : j < l.length := by
    have := congrArg List.length h
    simp at this; omega
  rw [List.drop_eq_getElem_cons hl] at h
  obtain ⟨h1, h2⟩ := List.cons.inj h
  exact ⟨by rw [List.take_succ_eq_append_getElem hl, h1], h2, hl⟩
/-- within a number -/
def NrIn (S l : List UInt8) (bad : Bool) (bk : Nat) (w : World) (a m : Value) (x : World) : Prop :=
  ∃ j : Nat, j ≤ 6 ∧ j ≤ l.length ∧ m = .int .i64 j ∧ a = .int .i64 (nv (l.take j)) ∧ 0 ≤ nv (l.take j) ∧ nv (l.take j) < 10 ^ j ∧ (l.take j).all dgt = true ∧ Onl bk w x ∧ Rr bk S (l.drop j) bad x
set_option maxRecDepth 100000 in
set_option maxHeartbeats 4000000 in
theorem numberR_any (S l : List UInt8) (bad : Bool) (bk : Nat) (w : World) (h : Rr bk S l bad w) :
    Calls Tryd.prog 49 #[.pointer (some ⟨bk, 0, none⟩)] w (StepR (.int .i64 (numR l).1) S (numR l).2.1 (bad || (numR l).2.2) bk w) := by
  have H := Lib.hid h; clear h
  go_enter Tryd.func49, Tryd.ntmps49
  go_wp2_with fail
  go_loopw [3, 4] (fun a m x => NrIn S l bad bk w a m x) (fun _ m _ => 6 - (intOf m).toNat)
  case atStart => exact ⟨0, by omega, Nat.zero_le _, rfl, rfl, by simp [nv], by simp [nv], by simp, Onl.refl _ _, H.out⟩
  case round =>
    obtain ⟨j, hj, hjl, rfl, rfl, n0, n1, hall, ho, hr⟩ := hrel
    have N1 := Lib.hid n1
    have n2 : nv (l.take j) < 1000000 := by
      have : (10 : Int) ^ j ≤ 10 ^ 6 := by exact_mod_cast Nat.pow_le_pow_right (show 0 < 10 by omega) hj
      omega
    clear n1
    have HA := Lib.hid hall; clear hall
    have HO := Lib.hid ho; clear ho
    have hs := hr.sl
    have c0 : wr.cell? ⟨bk, 0, none⟩ = some (.string ⟨S.toArray⟩) := cell_of (j := 0) hr.blk rfl
    have c1 : wr.cell? ⟨bk, 1, none⟩ = some (.int .i64 ((S.length - (l.drop j).length : Nat) : Int)) := cell_of (j := 1) hr.blk rfl
    have c2 : wr.cell? ⟨bk, 2, none⟩ = some (.bool bad) := cell_of (j := 2) hr.blk rfl
    have f1 := fro_of hr.blk
    have HE := Lib.hid (fun hx => numR_eq HA.out hj hjl hx)
    generalize hn : nv (l.take j) = n at *
    have HN := Lib.hid hn; clear hn
    cases hd : l.drop j with
    | nil =>
      rw [hd] at c1 hr
      have hq := Lib.hid (HE.out (Or.inr (by rw [hd]; rfl)))
      rw [hd] at hq
      have HR := Lib.hid hr; clear hr hd HE
      simp only [List.length_nil, Nat.sub_zero] at c1
      have hg : decide (S.length < S.length) = false := by simp
      by_cases hz : j = 0
      · subst hz
        go_wp2_with fail
        go_quiet (fail)
        go_wp2
        go_ret
        rw [hq.out]
        exact ⟨by simp, (HO.out.drewN _).set _ _, by simpa using (HR.out.drewN _).spoil true⟩
      · have hz2 : ((j : Int) == 0) = false := by simp; omega
        have hz3 : ¬ (j : Int) = 0 := by omega
        go_wp2_with fail
        go_quiet (fail)
        go_wp2
        go_ret
        rw [hq.out]
        exact ⟨by simp, HO.out.drewN _, by simpa [hz] using HR.out.drewN _⟩
    | cons c r =>
      rw [hd] at c1 hr
      obtain ⟨hk, hat⟩ := hr.at
      have hle := hr.le
      simp only [List.length_cons] at c1 hle
      have TL := Lib.hid (fun n => (hr.drewN n).tail)
      have hv : ((S.length - r.length : Nat) : Int) = ((S.length - (r.length + 1) : Nat) : Int) + 1 := by omega
      rw [hv] at TL
      clear hv
      have HR := Lib.hid hr; clear hr
      have HD := Lib.hid hd; clear hd
      generalize S.length - (r.length + 1) = k at *
      have e : ((ByteArray.mk S.toArray)[k]'hk) = c := hat
      have E := Lib.hid e; clear e hat
      have hg : decide (k < S.length) = true := by simp; omega
      have hk1 : (0 : Int) ≤ k := by omega
      have hk2 : (k : Int) < S.length := by omega
      by_cases d1 : 48 ≤ c.toNat
      · by_cases d2 : c.toNat ≤ 57
        · by_cases h6 : j < 6
          · have g1 : decide (48 ≤ (((ByteArray.mk S.toArray)[k]'hk).toNat : Int)) = true := by rw [E.out]; simp; omega
            have g2 : decide ((((ByteArray.mk S.toArray)[k]'hk).toNat : Int) ≤ 57) = true := by rw [E.out]; simp; omega
            have g3 : decide ((j : Int) < 6) = true := by simp; omega
            obtain ⟨s1, s2, s3⟩ := step_at HD.out
            have S1 := Lib.hid s1; clear s1
            have S2 := Lib.hid s2; clear s2
            have v1 : 48 ≤ (((ByteArray.mk S.toArray)[k]'hk).toNat : Int) := by rw [E.out]; omega
            have v2 : (((ByteArray.mk S.toArray)[k]'hk).toNat : Int) ≤ 57 := by rw [E.out]; omega
            clear HE
            go_wp2_with fail
            go_quiet (fail)
            have hw1 : IntKind.i64.wrap (10 * n) = 10 * n := IntWalk.i64_in _ (by omega)
            have hw2 : IntKind.u8.wrap ((((ByteArray.mk S.toArray)[k]'hk).toNat : Int) - 48) = (((ByteArray.mk S.toArray)[k]'hk).toNat : Int) - 48 := IntWalk.u8_in _ (by omega)
            have hw3 : IntKind.i64.wrap (10 * n + ((((ByteArray.mk S.toArray)[k]'hk).toNat : Int) - 48)) = 10 * n + ((((ByteArray.mk S.toArray)[k]'hk).toNat : Int) - 48) := IntWalk.i64_in _ (by omega)
            go_wp2_with fail
            go_quiet (fail)
            clear hw1 hw2 hw3
            go_wp2
            have NV := Lib.hid (show nv (l.take (j + 1)) = 10 * n + ((c.toNat : Int) - 48) by rw [S1.out, nv_snoc, HN.out])
            rw [E.out] at v1 v2
            go_roundw
            case rel =>
              refine ⟨j + 1, by omega, by omega, by go_num, congrArg _ (by rw [NV.out, E.out]), by rw [NV.out]; omega, by rw [NV.out, Int.pow_succ]; have := N1.out; omega, ?_, (HO.out.drewN _).set _ _, by rw [S2.out]; exact TL.out _⟩
              rw [S1.out, List.all_append, HA.out]
              simp [dgt]; omega
            case measure => simp [intOf]; omega
          · have hq := Lib.hid (HE.out (Or.inl (by omega)))
            rw [HD.out] at hq
            clear HE
            have g1 : decide (48 ≤ (((ByteArray.mk S.toArray)[k]'hk).toNat : Int)) = true := by rw [E.out]; simp; omega
            have g2 : decide ((((ByteArray.mk S.toArray)[k]'hk).toNat : Int) ≤ 57) = true := by rw [E.out]; simp; omega
            have g3 : decide ((j : Int) < 6) = false := by simp; omega
            have hz : ¬ j = 0 := by omega
            have hz2 : ((j : Int) == 0) = false := by simp; omega
            have hz3 : ¬ (j : Int) = 0 := by omega
            go_wp2_with fail
            go_quiet (fail)
            go_wp2
            go_ret
            rw [hq.out]
            exact ⟨by simp, HO.out.drewN _, by simpa [hz] using HR.out.drewN _⟩
        · have hq := Lib.hid (HE.out (Or.inr (by rw [HD.out]; simp [stp, dgt]; omega)))
          rw [HD.out] at hq
          clear HE
          have g1 : decide (48 ≤ (((ByteArray.mk S.toArray)[k]'hk).toNat : Int)) = true := by rw [E.out]; simp; omega
          have g2 : decide ((((ByteArray.mk S.toArray)[k]'hk).toNat : Int) ≤ 57) = false := by rw [E.out]; simp; omega
          by_cases hz : j = 0
          · subst hz
            go_wp2_with fail
            go_quiet (fail)
            go_wp2
            go_ret
            rw [hq.out]
            exact ⟨by simp, (HO.out.drewN _).set _ _, by simpa using (HR.out.drewN _).spoil true⟩
          · have hz2 : ((j : Int) == 0) = false := by simp; omega
            have hz3 : ¬ (j : Int) = 0 := by omega
            go_wp2_with fail
            go_quiet (fail)
            go_wp2
            go_ret
            rw [hq.out]
            exact ⟨by simp, HO.out.drewN _, by simpa [hz] using HR.out.drewN _⟩
      · have hq := Lib.hid (HE.out (Or.inr (by rw [HD.out]; simp [stp, dgt]; omega)))
        rw [HD.out] at hq
        clear HE
        have g1 : decide (48 ≤ (((ByteArray.mk S.toArray)[k]'hk).toNat : Int)) = false := by rw [E.out]; simp; omega
        by_cases hz : j = 0
        · subst hz
          go_wp2_with fail
          go_quiet (fail)
          go_wp2
          go_ret
          rw [hq.out]
          exact ⟨by simp, (HO.out.drewN _).set _ _, by simpa using (HR.out.drewN _).spoil true⟩
        · have hz2 : ((j : Int) == 0) = false := by simp; omega
          have hz3 : ¬ (j : Int) = 0 := by omega
          go_wp2_with fail
          go_quiet (fail)
          go_wp2
          go_ret
          rw [hq.out]
          exact ⟨by simp, HO.out.drewN _, by simpa [hz] using HR.out.drewN _⟩
end Go.Proofs.YtomnjdammfiadaaDoor
