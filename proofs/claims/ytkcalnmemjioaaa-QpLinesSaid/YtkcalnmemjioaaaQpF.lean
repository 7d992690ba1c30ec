/- What a text begins with, decoded. -/
import Derived.Test.YtkcalnmemjioaaaQpP
set_option linter.unusedSimpArgs false
set_option linter.unusedVariables false
namespace Go.Proofs.Ytkcalnmemjioaaa
open Go.ChangeShapes Go.WideShapes Go.ChangeAt Go.RowKit
open Qp
/-- first's answer -/
def fsV (s : B) : Value := match fst s with
  | some (x, k) => .tuple #[.int .u8 x.toNat, .int .i64 k]
  | none => .tuple #[.int .u8 0, .int .i64 0]
theorem fst_eq {c : UInt8} {r : B} (h : c.toNat = 61) : fst (c :: r) = (pr r).map fun x => (x, 3) := by
  unfold fst
  simp only
  rw [if_pos h]
  match r with
  | [] => rfl
  | [a] => rfl
  | a :: b :: r =>
    show ((dg a).bind fun x => (dg b).map fun y => (UInt8.ofNat (16 * x + y), 3)) = Option.map (fun x => (x, 3)) ((dg a).bind fun x => (dg b).map fun y => UInt8.ofNat (16 * x + y))
    cases dg a with
    | none => rfl
    | some x => cases dg b <;> rfl
theorem fst_cr {c : UInt8} {r : B} (h : c.toNat = 13) : fst (c :: r) = if beg [13, 10] (c :: r) = true then some (10, 2) else none := by
  obtain rfl : c = 13 := UInt8.toNat_inj.1 (by rw [h]; rfl)
  unfold fst
  simp only
  rw [if_neg (by decide), if_pos (by rfl)]
  match r with
  | [] => rfl
  | d :: r =>
    unfold beg
    simp only [List.length_cons, List.length_nil, Nat.zero_add, Nat.reduceAdd, List.take_succ_cons, List.take_zero, List.cons.injEq, true_and, and_true, decide_eq_true_eq]
    by_cases hd : d.toNat = 10
    · rw [if_pos hd, if_pos (UInt8.toNat_inj.1 (by rw [hd]; rfl))]
    · rw [if_neg hd, if_neg (fun e => hd (by rw [e]; rfl))]
theorem fst_lit {c : UInt8} {r : B} (h1 : ¬ c.toNat = 61) (h2 : ¬ c.toNat = 13) : fst (c :: r) = if isB c = true ∨ isS c = true then some (c, 1) else none := by
  unfold fst
  simp only
  rw [if_neg h1, if_neg h2]
theorem beg_ne {c : UInt8} {r : B} (h : ¬ c.toNat = 13) : beg [13, 10] (c :: r) = false := by
  unfold beg
  refine decide_eq_false (fun e => ?_)
  simp only [List.length_cons, List.length_nil, Nat.zero_add, Nat.reduceAdd, List.take_succ_cons] at e
  injection e with e _
  exact h (by rw [e]; rfl)
theorem at_0 (c : UInt8) (r : B) (h : 0 < (ByteArray.mk (c :: r).toArray).size) : (ByteArray.mk (c :: r).toArray)[0]'h = c := byte_at (c :: r) 0 c rfl h
set_option maxRecDepth 100000 in
set_option maxHeartbeats 4000000 in
theorem first_any (c : UInt8) (r : B) (w : World) (hl : r.length ≤ 100000000) : Calls Try.prog 15 #[sV (c :: r)] w fun e w' => e = .returned (fsV (c :: r)) ∧ Kept w w' := by
  have hss : (ByteArray.mk (c :: r).toArray).size = r.length + 1 := List.size_toArray
  have h0 := at_0 c r
  have hs0 : (0 : Int) < ((r.length + 1 : Nat) : Int) := by omega
  by_cases h1 : (c.toNat : Int) = 61
  · have hc := cut_from (c :: r) 1 1 rfl (by simp)
    rw [List.drop_succ_cons, List.drop_zero] at hc
    have HP := Lib.hid (pair_any r w (by omega))
    have hf := fst_eq (r := r) (show c.toNat = 61 by omega)
    cases hp : pr r with
    | none =>
      have HV := Lib.hid (show fsV (c :: r) = .tuple #[.int .u8 0, .int .i64 0] by unfold fsV; rw [hf, hp]; rfl)
      rw [show prV r = .tuple #[.int .u8 0, .bool false] by unfold prV; rw [hp]] at HP
      clear hf hp
      generalize c :: r = s at *
      go_enter Try.func15, Try.ntmps15
      go_wp2_with fail
      refine HP.out.mono ?_
      rintro e x ⟨rfl, k⟩
      have K := Lib.hid k
      clear k HP
      go_wp2_with fail
      go_ret2
      exact ⟨by rw [HV.out]; rfl, K.out⟩
    | some y =>
      have HV := Lib.hid (show fsV (c :: r) = .tuple #[.int .u8 y.toNat, .int .i64 3] by unfold fsV; rw [hf, hp]; rfl)
      rw [show prV r = .tuple #[.int .u8 y.toNat, .bool true] by unfold prV; rw [hp]] at HP
      clear hf hp
      generalize c :: r = s at *
      go_enter Try.func15, Try.ntmps15
      go_wp2_with fail
      refine HP.out.mono ?_
      rintro e x ⟨rfl, k⟩
      have K := Lib.hid k
      clear k HP
      go_wp2_with fail
      go_ret2
      exact ⟨by rw [HV.out]; rfl, K.out⟩
  · have HB := Lib.hid (hasPrefix_any (c :: r) [13, 10] w (by unfold maxLen; simp; omega) (by decide))
    have HS := Lib.hid (isSign_any c w)
    by_cases h2 : (c.toNat : Int) = 13
    · have hf := fst_cr (r := r) (show c.toNat = 13 by omega)
      cases hb : beg [13, 10] (c :: r) with
      | true =>
        have HV := Lib.hid (show fsV (c :: r) = .tuple #[.int .u8 10, .int .i64 2] by unfold fsV; rw [hf, hb]; rfl)
        rw [hb] at HB
        clear hf hb
        generalize c :: r = s at *
        go_enter Try.func15, Try.ntmps15
        go_wp2_with fail
        refine HB.out.mono ?_
        rintro e x ⟨rfl, rfl⟩
        clear HB HS
        go_wp2_with fail
        go_ret2
        exact ⟨by rw [HV.out]; rfl, Kept.refl _⟩
      | false =>
        have HV := Lib.hid (show fsV (c :: r) = .tuple #[.int .u8 0, .int .i64 0] by unfold fsV; rw [hf, hb]; rfl)
        rw [hb] at HB
        rw [show isS c = false by unfold isS; exact decide_eq_false (by omega), h2] at HS
        clear hf hb
        generalize c :: r = s at *
        go_enter Try.func15, Try.ntmps15
        go_wp2_with fail
        refine HB.out.mono ?_
        rintro e x ⟨rfl, rfl⟩
        clear HB
        go_wp2_with fail
        refine HS.out.mono ?_
        rintro e x2 ⟨rfl, rfl⟩
        clear HS
        go_wp2_with fail
        go_ret2
        exact ⟨by rw [HV.out]; rfl, Kept.refl _⟩
    · have hf := fst_lit (r := r) (show ¬ c.toNat = 61 by omega) (show ¬ c.toNat = 13 by omega)
      rw [beg_ne (show ¬ c.toNat = 13 by omega)] at HB
      by_cases h3 : (c.toNat : Int) = 32
      · have HV := Lib.hid (show fsV (c :: r) = .tuple #[.int .u8 32, .int .i64 1] by unfold fsV; rw [hf, if_pos (Or.inl (by unfold isB; exact decide_eq_true (by omega))), ← h3]; rfl)
        clear hf HS
        generalize c :: r = s at *
        go_enter Try.func15, Try.ntmps15
        go_wp2_with fail
        refine HB.out.mono ?_
        rintro e x ⟨rfl, rfl⟩
        clear HB
        go_wp2_with fail
        go_ret2
        exact ⟨by rw [HV.out]; rfl, Kept.refl _⟩
      by_cases h4 : (c.toNat : Int) = 9
      · have HV := Lib.hid (show fsV (c :: r) = .tuple #[.int .u8 9, .int .i64 1] by unfold fsV; rw [hf, if_pos (Or.inl (by unfold isB; exact decide_eq_true (by omega))), ← h4]; rfl)
        clear hf HS
        generalize c :: r = s at *
        go_enter Try.func15, Try.ntmps15
        go_wp2_with fail
        refine HB.out.mono ?_
        rintro e x ⟨rfl, rfl⟩
        clear HB
        go_wp2_with fail
        go_ret2
        exact ⟨by rw [HV.out]; rfl, Kept.refl _⟩
      have b3 : ((c.toNat : Int) == 32) = false := beq_eq_false_iff_ne.2 h3
      have b4 : ((c.toNat : Int) == 9) = false := beq_eq_false_iff_ne.2 h4
      have hnb : isB c = false := by unfold isB; exact decide_eq_false (by omega)
      cases hs : isS c with
      | true =>
        have HV := Lib.hid (show fsV (c :: r) = .tuple #[.int .u8 c.toNat, .int .i64 1] by unfold fsV; rw [hf, if_pos (Or.inr hs)]; rfl)
        rw [hs] at HS
        clear hf hs hnb
        generalize c :: r = s at *
        go_enter Try.func15, Try.ntmps15
        go_wp2_with fail
        refine HB.out.mono ?_
        rintro e x ⟨rfl, rfl⟩
        clear HB
        go_wp2_with fail
        refine HS.out.mono ?_
        rintro e x2 ⟨rfl, rfl⟩
        clear HS
        go_wp2_with fail
        go_ret2
        exact ⟨by rw [HV.out]; rfl, Kept.refl _⟩
      | false =>
        have HV := Lib.hid (show fsV (c :: r) = .tuple #[.int .u8 0, .int .i64 0] by unfold fsV; rw [hf, if_neg (by rw [hs, hnb]; decide)])
        rw [hs] at HS
        clear hf hs hnb
        generalize c :: r = s at *
        go_enter Try.func15, Try.ntmps15
        go_wp2_with fail
        refine HB.out.mono ?_
        rintro e x ⟨rfl, rfl⟩
        clear HB
        go_wp2_with fail
        refine HS.out.mono ?_
        rintro e x2 ⟨rfl, rfl⟩
        clear HS
        go_wp2_with fail
        go_ret2
        exact ⟨by rw [HV.out]; rfl, Kept.refl _⟩
end Go.Proofs.Ytkcalnmemjioaaa
