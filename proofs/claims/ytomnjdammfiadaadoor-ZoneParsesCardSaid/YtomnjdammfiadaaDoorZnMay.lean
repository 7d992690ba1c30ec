/- Contracts of package zone: whether a rule, and a zone, may be. -/
import Derived.Test.YtomnjdammfiadaaDoorZnFns
import Derived.Deep.RegionHeld3
import Derived.WalkMore
import Derived.ScopeJumps
namespace Go.Proofs.YtomnjdammfiadaaDoor
open Go.ChangeShapes Go.WideShapes Go.ChangeAt Go.RowKit
open Zn
theorem within_yes (n a b : Int) (w : World) (h : wiB n a b = true) :
    Calls Tryd.prog 28 #[.int .i64 n, .int .i64 a, .int .i64 b] w fun e w' => e = .returned (.bool true) ∧ w = w' :=
  (within_any n a b w).mono fun _ _ ⟨he, hw⟩ => ⟨by rw [he, h], hw⟩
theorem within_no (n a b : Int) (w : World) (h : wiB n a b = false) :
    Calls Tryd.prog 28 #[.int .i64 n, .int .i64 a, .int .i64 b] w fun e w' => e = .returned (.bool false) ∧ w = w' :=
  (within_any n a b w).mono fun _ _ ⟨he, hw⟩ => ⟨by rw [he, h], hw⟩
/-- A scope in which the run jumps ahead to a label, and not again: what stands behind the label is walked from there. -/
theorem wp_scope_ahead {P : Program} {c rest : Code} {Q : Exit → Act → World → Prop} {a : Act} {w : World} (l : Nat) (hf : findLabel c l = some rest)
    (h : c.wp P (Exit.jump l (fun a w => rest.wp P (Exit.noGoto Q) a w) Q) a w) : (Code.scope c).wp P Q a w :=
  wp_scope_jumps l (fun a w => rest.wp P (Exit.noGoto Q) a w) (fun _ _ => 0) hf h fun a w hJ => wp_mono hJ fun e a' w' hq => by
    cases e <;> first | exact hq | exact hq.elim
section
variable {Q : Exit → Act → World → Prop} {a : Act} {w : World} {J : Act → World → Prop} {l : Nat}
theorem jump_ret : Exit.jump l J Q .ret a w = Q .ret a w := rfl
theorem jump_goto : Exit.jump l J Q (.goto l) a w = (l = l ∧ J a w) := rfl
end
set_option maxHeartbeats 1000000 in
theorem mayRule_at (k m x d a : Int) (w : World) (h : wiB a (-604799) 604799 = false) :
    Calls Tryd.prog 30 #[ruV ⟨k, m, x, d, a⟩] w fun e w' => e = .returned (.bool false) ∧ Kept w w' := by
  have H := Lib.hid h; clear h
  go_enter Tryd.func30, Tryd.ntmps30
  go_wp2_with fail
  go_step3
  go_wp2_with fail
  refine (within_no _ _ _ _ H.out).mono ?_
  rintro e w1 ⟨rfl, rfl⟩
  go_wp2
  (try go_step3)
  go_wp2
  try rw [Exit.noGoto_ret]
  go_ret
  exact ⟨rfl, (Kept.refl _).alloc _⟩
set_option maxHeartbeats 1000000 in
theorem mayRule_none (k m x d a : Int) (w : World) (h : wiB a (-604799) 604799 = true) (h0 : ¬ k = 0) (h1 : ¬ k = 1) (h2 : ¬ k = 2) :
    Calls Tryd.prog 30 #[ruV ⟨k, m, x, d, a⟩] w fun e w' => e = .returned (.bool false) ∧ Kept w w' := by
  have H := Lib.hid h; clear h
  go_enter Tryd.func30, Tryd.ntmps30
  go_wp2_with fail
  go_step3
  go_wp2_with fail
  refine (within_yes _ _ _ _ H.out).mono ?_
  rintro e w1 ⟨rfl, rfl⟩
  go_wp2
  (try go_step3)
  go_wp2
  try rw [Exit.noGoto_ret]
  go_ret
  exact ⟨rfl, (Kept.refl _).alloc _⟩
set_option maxHeartbeats 1000000 in
theorem mayRule_jul (m x d a : Int) (w : World) (h : wiB a (-604799) 604799 = true) :
    Calls Tryd.prog 30 #[ruV ⟨0, m, x, d, a⟩] w fun e w' => e = .returned (.bool (decide (m = 0) && decide (x = 0) && wiB d 1 365)) ∧ Kept w w' := by
  have H := Lib.hid h; clear h
  by_cases hm : m = 0
  · subst hm
    by_cases hx : x = 0
    · subst hx
      go_enter Tryd.func30, Tryd.ntmps30
      go_wp2_with fail
      refine wp_scope_ahead 0 rfl ?_
      go_wp2_with fail
      refine (within_yes _ _ _ _ H.out).mono ?_
      rintro e w1 ⟨rfl, rfl⟩
      go_wp2_with fail
      go_step3
      go_wp2_with fail
      go_step3
      refine ⟨rfl, ?_⟩
      go_wp2_with fail
      refine (within_any _ _ _ _).mono ?_
      rintro e w1 ⟨rfl, rfl⟩
      go_wp2
      try rw [Exit.noGoto_ret]
      go_ret
      exact ⟨ret_bool (by simp), (Kept.refl _).alloc _⟩
    · go_enter Tryd.func30, Tryd.ntmps30
      go_wp2_with fail
      refine wp_scope_ahead 0 rfl ?_
      go_wp2_with fail
      refine (within_yes _ _ _ _ H.out).mono ?_
      rintro e w1 ⟨rfl, rfl⟩
      go_wp2_with fail
      go_step3
      go_wp2_with fail
      go_step3
      refine ⟨rfl, ?_⟩
      go_wp2
      try rw [Exit.noGoto_ret]
      go_ret
      exact ⟨ret_bool (by simp [hx]), (Kept.refl _).alloc _⟩
  · go_enter Tryd.func30, Tryd.ntmps30
    go_wp2_with fail
    refine wp_scope_ahead 0 rfl ?_
    go_wp2_with fail
    refine (within_yes _ _ _ _ H.out).mono ?_
    rintro e w1 ⟨rfl, rfl⟩
    go_wp2_with fail
    go_step3
    go_wp2_with fail
    go_step3
    refine ⟨rfl, ?_⟩
    go_wp2
    try rw [Exit.noGoto_ret]
    go_ret
    exact ⟨ret_bool (by simp [hm]), (Kept.refl _).alloc _⟩
set_option maxHeartbeats 1000000 in
theorem mayRule_zer (m x d a : Int) (w : World) (h : wiB a (-604799) 604799 = true) :
    Calls Tryd.prog 30 #[ruV ⟨1, m, x, d, a⟩] w fun e w' => e = .returned (.bool (decide (m = 0) && decide (x = 0) && wiB d 0 365)) ∧ Kept w w' := by
  have H := Lib.hid h; clear h
  by_cases hm : m = 0
  · subst hm
    by_cases hx : x = 0
    · subst hx
      go_enter Tryd.func30, Tryd.ntmps30
      go_wp2_with fail
      refine wp_scope_ahead 0 rfl ?_
      go_wp2_with fail
      refine (within_yes _ _ _ _ H.out).mono ?_
      rintro e w1 ⟨rfl, rfl⟩
      go_wp2_with fail
      go_step3
      go_wp2_with fail
      go_step3
      refine ⟨rfl, ?_⟩
      go_wp2_with fail
      refine (within_any _ _ _ _).mono ?_
      rintro e w1 ⟨rfl, rfl⟩
      go_wp2
      try rw [Exit.noGoto_ret]
      go_ret
      exact ⟨ret_bool (by simp), (Kept.refl _).alloc _⟩
    · go_enter Tryd.func30, Tryd.ntmps30
      go_wp2_with fail
      refine wp_scope_ahead 0 rfl ?_
      go_wp2_with fail
      refine (within_yes _ _ _ _ H.out).mono ?_
      rintro e w1 ⟨rfl, rfl⟩
      go_wp2_with fail
      go_step3
      go_wp2_with fail
      go_step3
      refine ⟨rfl, ?_⟩
      go_wp2
      try rw [Exit.noGoto_ret]
      go_ret
      exact ⟨ret_bool (by simp [hx]), (Kept.refl _).alloc _⟩
  · go_enter Tryd.func30, Tryd.ntmps30
    go_wp2_with fail
    refine wp_scope_ahead 0 rfl ?_
    go_wp2_with fail
    refine (within_yes _ _ _ _ H.out).mono ?_
    rintro e w1 ⟨rfl, rfl⟩
    go_wp2_with fail
    go_step3
    go_wp2_with fail
    go_step3
    refine ⟨rfl, ?_⟩
    go_wp2
    try rw [Exit.noGoto_ret]
    go_ret
    exact ⟨ret_bool (by simp [hm]), (Kept.refl _).alloc _⟩
theorem cells_nlh : Tryd.prog.cellsOf 54 = 3 := by kernel_rfl
/-- An array by value, whose elements are structs, indexed within its length. -/
theorem run_index_str {P : Program} (w : World) (t e : TypeId) (n c : Nat) (cs : Array Value) (k : IntKind) (i : Int) {fs : Array Field}
    (h : P.underlying t = some (.array n e)) (he : P.underlying e = some (.struct fs)) (hi : (P.info? e).isSome = true) (hc : P.cellsOf e = c)
    (h0 : 0 ≤ i) (h1 : i < n) : (Instr.index t (.agg cs) (.int k i)).run P w = .ok (.agg (cs.extract (i.toNat * c) (i.toNat * c + c))) w := by
  obtain ⟨inf, hinf⟩ := Option.isSome_iff_exists.mp hi
  simp [Instr.index, run_underlying h, asIntOf, h0, h1, run_sizeOf _ hinf, hc, part, isAgg, run_underlying he, go_sem]
def NthIn (m x d : Int) (w : World) (i : Value) (y : World) : Prop := ∃ k : Nat, k ≤ 3 ∧ i = .int .i64 k ∧ (1 ≤ k → wiB m 1 12 = true) ∧ (2 ≤ k → wiB x 1 5 = true) ∧ (3 ≤ k → wiB d 0 6 = true) ∧ Kept w y
set_option maxRecDepth 100000 in
set_option maxHeartbeats 4000000 in
theorem mayRule_nth (m x d a : Int) (w : World) (h : wiB a (-604799) 604799 = true) :
    Calls Tryd.prog 30 #[ruV ⟨2, m, x, d, a⟩] w fun e w' => e = .returned (.bool (wiB m 1 12 && wiB x 1 5 && wiB d 0 6)) ∧ Kept w w' := by
  have H := Lib.hid h; clear h
  go_enter Tryd.func30, Tryd.ntmps30
  go_wp2_with fail
  go_step3
  go_wp2_with fail
  refine (within_yes _ _ _ _ H.out).mono ?_
  rintro e w1 ⟨rfl, rfl⟩
  go_wp2_with fail
  go_step3
  go_wp2_with fail
  generalize hW : w.alloc (.cells #[.int .i64 2, .int .i64 m, .int .i64 x, .int .i64 d, .int .i64 a] 23) = W at *
  have K0 := Lib.hid (show Kept w W by rw [← hW]; exact (Kept.refl _).alloc _)
  clear hW
  go_loopw [28] (fun i y => NthIn m x d W i y) (fun i _ => 4 - (intOf i).toNat)
  case atStart => exact ⟨0, by omega, rfl, by omega, by omega, by omega, Kept.refl _⟩
  case round =>
    obtain ⟨k, hk, rfl, p1, p2, p3, hkp⟩ := hrel
    have P1 := Lib.hid p1; clear p1
    have P2 := Lib.hid p2; clear p2
    have P3 := Lib.hid p3; clear p3
    rcases (show k = 0 ∨ k = 1 ∨ k = 2 ∨ k = 3 by omega) with rfl | rfl | rfl | rfl
    · have hx : ∀ W, (Instr.index 55 (.agg #[.int .i64 m, .int .i64 1, .int .i64 12, .int .i64 x, .int .i64 1, .int .i64 5, .int .i64 d, .int .i64 0, .int .i64 6]) (.int .i64 0)).run Tryd.prog W = .ok (.agg #[.int .i64 m, .int .i64 1, .int .i64 12]) W := fun W => run_index_str W _ _ 3 3 _ _ _ Tryd.underlying55 Tryd.underlying54 (by kernel_rfl) cells_nlh (by omega) (by omega)
      cases hq : wiB m 1 12 with
      | false =>
        have HQ := Lib.hid hq; clear hq
        go_wp2_with fail
        refine (within_no _ _ _ _ HQ.out).mono ?_
        rintro e w1 ⟨rfl, rfl⟩
        go_wp2
        (try go_step3)
        go_wp2
        try rw [Exit.noGoto_ret]
        go_ret
        exact ⟨ret_bool (by rw [HQ.out]; simp), K0.out.trans (hkp.alloc _)⟩
      | true =>
        have HQ := Lib.hid hq; clear hq
        go_wp2_with fail
        refine (within_yes _ _ _ _ HQ.out).mono ?_
        rintro e w1 ⟨rfl, rfl⟩
        go_wp2
        go_roundw
        case rel => exact ⟨1, by omega, by go_num, fun _ => HQ.out, by omega, by omega, hkp.alloc _⟩
        case measure => simp [intOf]
    · have hx : ∀ W, (Instr.index 55 (.agg #[.int .i64 m, .int .i64 1, .int .i64 12, .int .i64 x, .int .i64 1, .int .i64 5, .int .i64 d, .int .i64 0, .int .i64 6]) (.int .i64 1)).run Tryd.prog W = .ok (.agg #[.int .i64 x, .int .i64 1, .int .i64 5]) W := fun W => run_index_str W _ _ 3 3 _ _ _ Tryd.underlying55 Tryd.underlying54 (by kernel_rfl) cells_nlh (by omega) (by omega)
      cases hq : wiB x 1 5 with
      | false =>
        have HQ := Lib.hid hq; clear hq
        go_wp2_with fail
        refine (within_no _ _ _ _ HQ.out).mono ?_
        rintro e w1 ⟨rfl, rfl⟩
        go_wp2
        (try go_step3)
        go_wp2
        try rw [Exit.noGoto_ret]
        go_ret
        exact ⟨ret_bool (by rw [P1.out (by omega), HQ.out]; simp), K0.out.trans (hkp.alloc _)⟩
      | true =>
        have HQ := Lib.hid hq; clear hq
        go_wp2_with fail
        refine (within_yes _ _ _ _ HQ.out).mono ?_
        rintro e w1 ⟨rfl, rfl⟩
        go_wp2
        go_roundw
        case rel => exact ⟨2, by omega, by go_num, fun _ => P1.out (by omega), fun _ => HQ.out, by omega, hkp.alloc _⟩
        case measure => simp [intOf]
    · have hx : ∀ W, (Instr.index 55 (.agg #[.int .i64 m, .int .i64 1, .int .i64 12, .int .i64 x, .int .i64 1, .int .i64 5, .int .i64 d, .int .i64 0, .int .i64 6]) (.int .i64 2)).run Tryd.prog W = .ok (.agg #[.int .i64 d, .int .i64 0, .int .i64 6]) W := fun W => run_index_str W _ _ 3 3 _ _ _ Tryd.underlying55 Tryd.underlying54 (by kernel_rfl) cells_nlh (by omega) (by omega)
      cases hq : wiB d 0 6 with
      | false =>
        have HQ := Lib.hid hq; clear hq
        go_wp2_with fail
        refine (within_no _ _ _ _ HQ.out).mono ?_
        rintro e w1 ⟨rfl, rfl⟩
        go_wp2
        (try go_step3)
        go_wp2
        try rw [Exit.noGoto_ret]
        go_ret
        exact ⟨ret_bool (by rw [P1.out (by omega), P2.out (by omega), HQ.out]; simp), K0.out.trans (hkp.alloc _)⟩
      | true =>
        have HQ := Lib.hid hq; clear hq
        go_wp2_with fail
        refine (within_yes _ _ _ _ HQ.out).mono ?_
        rintro e w1 ⟨rfl, rfl⟩
        go_wp2
        go_roundw
        case rel => exact ⟨3, by omega, by go_num, fun _ => P1.out (by omega), fun _ => P2.out (by omega), fun _ => HQ.out, hkp.alloc _⟩
        case measure => simp [intOf]
    · go_wp2
      try rw [Exit.noGoto_ret]
      go_ret
      exact ⟨ret_bool (by rw [P1.out (by omega), P2.out (by omega), P3.out (by omega)]; rfl), K0.out.trans hkp⟩
theorem mayRule_any (r : Ru) (w : World) :
    Calls Tryd.prog 30 #[ruV r] w fun e w' => e = .returned (.bool (mayR r)) ∧ Kept w w' := by
  obtain ⟨k, m, x, d, a⟩ := r
  cases ha : wiB a (-604799) 604799 with
  | false =>
    rw [show mayR ⟨k, m, x, d, a⟩ = false by simp only [wiB, decide_eq_false_iff_not] at ha; simp only [mayR, decide_eq_false_iff_not]; omega]
    exact mayRule_at k m x d a w ha
  | true =>
    have ha' := ha
    simp only [wiB, decide_eq_true_eq] at ha'
    by_cases h0 : k = 0
    · subst h0
      rw [show mayR ⟨0, m, x, d, a⟩ = (decide (m = 0) && decide (x = 0) && wiB d 1 365) by rw [Bool.eq_iff_iff]; simp [mayR, wiB]; omega]
      exact mayRule_jul m x d a w ha
    · by_cases h1 : k = 1
      · subst h1
        rw [show mayR ⟨1, m, x, d, a⟩ = (decide (m = 0) && decide (x = 0) && wiB d 0 365) by rw [Bool.eq_iff_iff]; simp [mayR, wiB]; omega]
        exact mayRule_zer m x d a w ha
      · by_cases h2 : k = 2
        · subst h2
          rw [show mayR ⟨2, m, x, d, a⟩ = (wiB m 1 12 && wiB x 1 5 && wiB d 0 6) by rw [Bool.eq_iff_iff]; simp [mayR, wiB]; omega]
          exact mayRule_nth m x d a w ha
        · rw [show mayR ⟨k, m, x, d, a⟩ = false by simp only [mayR, decide_eq_false_iff_not]; omega]
          exact mayRule_none k m x d a w ha h0 h1 h2
end Go.Proofs.YtomnjdammfiadaaDoor
