/- The law StampRises, walked. -/
import Derived.Test.YtlmjopembcifiaaDoorStAwake
import Derived.Deep.QuietTactic
import Derived.BigQuiet
namespace Go.Proofs.YtlmjopembcifiaaDoor
open Go.ChangeShapes Go.WideShapes Go.ChangeAt Go.RowKit
open Civ
def fld (y m d h i s : Int) : Nat → Int
  | 0 => y | 1 => m | 2 => d | 3 => h | 4 => i | _ => s
theorem ord_year {y m d y' m' d' : Int} (k : okP y m d) (k' : okP y' m' d') (h : y < y') : ord y m d < ord y' m' d' := by
  have b := yd_bd k; have b' := yd_bd k'
  have s := dby_succ y k.1
  have mm := dby_mono (y + 1) y' (by have := k.1; omega) (by omega)
  unfold ord; omega
theorem ord_month {y m d m' d' : Int} (k : okP y m d) (k' : okP y m' d') (h : m < m') : ord y m d < ord y m' d' := by
  obtain ⟨m1, m2⟩ := ok_month k.2.2.1 k.2.2.2
  obtain ⟨n1, n2⟩ := ok_month k'.2.2.1 k'.2.2.2
  have s := cum_succ y m m1 m2
  have mm := cum_mono y (m + 1) m' (by omega) (by omega) (by omega)
  have := k.2.2.2; have := k'.2.2.1
  unfold ord; omega
/-- of two days and times the later one, field by field, has the greater second -/
theorem sec_lex {y m d h i s y' m' d' h' i' s' : Int} (k : okP y m d) (kt : tmB h i s = true) (k' : okP y' m' d') (kt' : tmB h' i' s' = true) (j : Nat) (hj : j < 6)
    (he : ∀ n, n < j → fld y m d h i s n = fld y' m' d' h' i' s' n) (hlt : fld y m d h i s j < fld y' m' d' h' i' s' j) : sec y m d h i s < sec y' m' d' h' i' s' := by
  have a := tm_bd kt; have b := tm_bd kt'
  have : j = 0 ∨ j = 1 ∨ j = 2 ∨ j = 3 ∨ j = 4 ∨ j = 5 := by omega
  rcases this with rfl | rfl | rfl | rfl | rfl | rfl
  · have := ord_year k k' hlt
    unfold sec; omega
  · have e0 : y = y' := he 0 (by omega)
    subst e0
    have := ord_month k k' hlt
    unfold sec; omega
  · have e0 : y = y' := he 0 (by omega)
    have e1 : m = m' := he 1 (by omega)
    subst e0 e1
    have : d < d' := hlt
    unfold sec ord; omega
  · have e0 : y = y' := he 0 (by omega)
    have e1 : m = m' := he 1 (by omega)
    have e2 : d = d' := he 2 (by omega)
    subst e0 e1 e2
    have : h < h' := hlt
    unfold sec; omega
  · have e0 : y = y' := he 0 (by omega)
    have e1 : m = m' := he 1 (by omega)
    have e2 : d = d' := he 2 (by omega)
    have e3 : h = h' := he 3 (by omega)
    subst e0 e1 e2 e3
    have : i < i' := hlt
    unfold sec; omega
  · have e0 : y = y' := he 0 (by omega)
    have e1 : m = m' := he 1 (by omega)
    have e2 : d = d' := he 2 (by omega)
    have e3 : h = h' := he 3 (by omega)
    have e4 : i = i' := he 4 (by omega)
    subst e0 e1 e2 e3 e4
    have : s < s' := hlt
    unfold sec; omega
/-- the same memory -/
structure Same (X x : World) : Prop where
  heap : x.heap = X.heap
  os : x.os = X.os
  output : x.output = X.output
theorem Same.cell {X x : World} (h : Same X x) (a : Addr) : x.cell? a = X.cell? a := by unfold World.cell?; rw [h.heap]
theorem Same.kept {w X x : World} (h : Same X x) (k : Kept w X) : Kept w x := ⟨h.os.trans k.os, h.output.trans k.output, by rw [h.heap]; exact k.size, fun i hi => by rw [h.heap]; exact k.block i hi⟩
set_option maxHeartbeats 4000000 in
theorem walkRises_yes (y m d h i s y' m' d' h' i' s' : Int) (w : World) (htab : Tab w) (k : okP y m d) (kt : tmB h i s = true) (k' : okP y' m' d') (kt' : tmB h' i' s' = true) :
    Calls Tryd.prog 7 #[civ y m d h i s, civ y' m' d' h' i' s'] w fun e w' => e = .returned (.bool true) ∧ Kept w w' := by
  have HT := Lib.hid htab; clear htab
  have K1 := Lib.hid k; clear k
  have K2 := Lib.hid kt; clear kt
  have K3 := Lib.hid k'; clear k'
  have K4 := Lib.hid kt'; clear kt'
  have g0 := (Kept.refl w).alloc (.cells #[.int .i64 y, .int .i64 m, .int .i64 d, .int .i64 h, .int .i64 i, .int .i64 s] 23)
  go_enter Tryd.func7, Tryd.ntmps7
  go_wp2_with fail
  refine (awake_yes _ ((g0.alloc _).tab' HT.out)).mono ?_
  rintro e w1 ⟨rfl, k1⟩
  have a0 := (k1.back).new 0 rfl
  have a1 := (k1.back).new 1 rfl
  have a2 := (k1.back).new 2 rfl
  have a3 := (k1.back).new 3 rfl
  have a4 := (k1.back).new 4 rfl
  have a5 := (k1.back).new 5 rfl
  have b0 : w1.cell? ⟨w.heap.size + 1, 0, none⟩ = some (.int .i64 y') := by have := (k1).new 0 rfl; simpa using this
  have b1 : w1.cell? ⟨w.heap.size + 1, 1, none⟩ = some (.int .i64 m') := by have := (k1).new 1 rfl; simpa using this
  have b2 : w1.cell? ⟨w.heap.size + 1, 2, none⟩ = some (.int .i64 d') := by have := (k1).new 2 rfl; simpa using this
  have b3 : w1.cell? ⟨w.heap.size + 1, 3, none⟩ = some (.int .i64 h') := by have := (k1).new 3 rfl; simpa using this
  have b4 : w1.cell? ⟨w.heap.size + 1, 4, none⟩ = some (.int .i64 i') := by have := (k1).new 4 rfl; simpa using this
  have b5 : w1.cell? ⟨w.heap.size + 1, 5, none⟩ = some (.int .i64 s') := by have := (k1).new 5 rfl; simpa using this
  go_wp2_with fail
  clear a0 b0 a1 b1 a2 b2 a3 b3 a4 b4 a5 b5
  refine (of_yes y m d h i s _ K1.out K2.out).mono ?_
  rintro e w2 ⟨rfl, k2⟩
  have q2 := k1.trans k2
  have a0 := (q2.back).new 0 rfl
  have a1 := (q2.back).new 1 rfl
  have a2 := (q2.back).new 2 rfl
  have a3 := (q2.back).new 3 rfl
  have a4 := (q2.back).new 4 rfl
  have a5 := (q2.back).new 5 rfl
  have b0 : w2.cell? ⟨w.heap.size + 1, 0, none⟩ = some (.int .i64 y') := by have := (q2).new 0 rfl; simpa using this
  have b1 : w2.cell? ⟨w.heap.size + 1, 1, none⟩ = some (.int .i64 m') := by have := (q2).new 1 rfl; simpa using this
  have b2 : w2.cell? ⟨w.heap.size + 1, 2, none⟩ = some (.int .i64 d') := by have := (q2).new 2 rfl; simpa using this
  have b3 : w2.cell? ⟨w.heap.size + 1, 3, none⟩ = some (.int .i64 h') := by have := (q2).new 3 rfl; simpa using this
  have b4 : w2.cell? ⟨w.heap.size + 1, 4, none⟩ = some (.int .i64 i') := by have := (q2).new 4 rfl; simpa using this
  have b5 : w2.cell? ⟨w.heap.size + 1, 5, none⟩ = some (.int .i64 s') := by have := (q2).new 5 rfl; simpa using this
  go_wp2_with fail
  clear a0 b0 a1 b1 a2 b2 a3 b3 a4 b4 a5 b5
  refine (of_yes y' m' d' h' i' s' _ K3.out K4.out).mono ?_
  rintro e w3 ⟨rfl, k3⟩
  have q3 := q2.trans k3
  have a0 := (q3.back).new 0 rfl
  have a1 := (q3.back).new 1 rfl
  have a2 := (q3.back).new 2 rfl
  have a3 := (q3.back).new 3 rfl
  have a4 := (q3.back).new 4 rfl
  have a5 := (q3.back).new 5 rfl
  have b0 : w3.cell? ⟨w.heap.size + 1, 0, none⟩ = some (.int .i64 y') := by have := (q3).new 0 rfl; simpa using this
  have b1 : w3.cell? ⟨w.heap.size + 1, 1, none⟩ = some (.int .i64 m') := by have := (q3).new 1 rfl; simpa using this
  have b2 : w3.cell? ⟨w.heap.size + 1, 2, none⟩ = some (.int .i64 d') := by have := (q3).new 2 rfl; simpa using this
  have b3 : w3.cell? ⟨w.heap.size + 1, 3, none⟩ = some (.int .i64 h') := by have := (q3).new 3 rfl; simpa using this
  have b4 : w3.cell? ⟨w.heap.size + 1, 4, none⟩ = some (.int .i64 i') := by have := (q3).new 4 rfl; simpa using this
  have b5 : w3.cell? ⟨w.heap.size + 1, 5, none⟩ = some (.int .i64 s') := by have := (q3).new 5 rfl; simpa using this
  have a0p := (q3.back).new2 0 rfl
  have a1p := (q3.back).new2 1 rfl
  have a2p := (q3.back).new2 2 rfl
  have a3p := (q3.back).new2 3 rfl
  have a4p := (q3.back).new2 4 rfl
  have a5p := (q3.back).new2 5 rfl
  have b0p : ∀ o, (w3.alloc o).cell? ⟨w.heap.size + 1, 0, none⟩ = some (.int .i64 y') := by have := (q3).new2 0 rfl; simpa using this
  have b1p : ∀ o, (w3.alloc o).cell? ⟨w.heap.size + 1, 1, none⟩ = some (.int .i64 m') := by have := (q3).new2 1 rfl; simpa using this
  have b2p : ∀ o, (w3.alloc o).cell? ⟨w.heap.size + 1, 2, none⟩ = some (.int .i64 d') := by have := (q3).new2 2 rfl; simpa using this
  have b3p : ∀ o, (w3.alloc o).cell? ⟨w.heap.size + 1, 3, none⟩ = some (.int .i64 h') := by have := (q3).new2 3 rfl; simpa using this
  have b4p : ∀ o, (w3.alloc o).cell? ⟨w.heap.size + 1, 4, none⟩ = some (.int .i64 i') := by have := (q3).new2 4 rfl; simpa using this
  have b5p : ∀ o, (w3.alloc o).cell? ⟨w.heap.size + 1, 5, none⟩ = some (.int .i64 s') := by have := (q3).new2 5 rfl; simpa using this
  have KQ := Lib.hid q3.back.back
  clear k1 k2 k3 q2 q3 g0
  go_wp2_with fail
  clear a0 b0 a1 b1 a2 b2 a3 b3 a4 b4 a5 b5
  clear a0p b0p a1p b1p a2p b2p a3p b3p a4p b4p a5p b5p
  have HA := Lib.hid (show ∀ j, j < 6 → ((w3.alloc (.cells #[.int .i64 y, .int .i64 m, .int .i64 d, .int .i64 h, .int .i64 i, .int .i64 s] 3)).alloc (.cells #[.int .i64 y', .int .i64 m', .int .i64 d', .int .i64 h', .int .i64 i', .int .i64 s'] 3)).cell? ⟨w3.heap.size, j, none⟩ = some (.int .i64 (fld y m d h i s j)) by
    intro j hj
    have g := (Kept.refl (w3.alloc (.cells #[.int .i64 y, .int .i64 m, .int .i64 d, .int .i64 h, .int .i64 i, .int .i64 s] 3))).new2
    have : j = 0 ∨ j = 1 ∨ j = 2 ∨ j = 3 ∨ j = 4 ∨ j = 5 := by omega
    rcases this with rfl | rfl | rfl | rfl | rfl | rfl <;> exact g _ rfl _)
  have HB := Lib.hid (show ∀ j, j < 6 → ((w3.alloc (.cells #[.int .i64 y, .int .i64 m, .int .i64 d, .int .i64 h, .int .i64 i, .int .i64 s] 3)).alloc (.cells #[.int .i64 y', .int .i64 m', .int .i64 d', .int .i64 h', .int .i64 i', .int .i64 s'] 3)).cell? ⟨w3.heap.size + 1, j, none⟩ = some (.int .i64 (fld y' m' d' h' i' s' j)) by
    intro j hj
    have g := (Kept.refl ((w3.alloc (.cells #[.int .i64 y, .int .i64 m, .int .i64 d, .int .i64 h, .int .i64 i, .int .i64 s] 3)).alloc (.cells #[.int .i64 y', .int .i64 m', .int .i64 d', .int .i64 h', .int .i64 i', .int .i64 s'] 3))).new
    have : j = 0 ∨ j = 1 ∨ j = 2 ∨ j = 3 ∨ j = 4 ∨ j = 5 := by omega
    rcases this with rfl | rfl | rfl | rfl | rfl | rfl
    · simp [fld]
    · simp [fld]
    · simp [fld]
    · simp [fld]
    · simp [fld]
    · simp [fld])
  have KX := Lib.hid ((KQ.out.alloc (.cells #[.int .i64 y, .int .i64 m, .int .i64 d, .int .i64 h, .int .i64 i, .int .i64 s] 3)).alloc (.cells #[.int .i64 y', .int .i64 m', .int .i64 d', .int .i64 h', .int .i64 i', .int .i64 s'] 3))
  generalize (w3.alloc (.cells #[.int .i64 y, .int .i64 m, .int .i64 d, .int .i64 h, .int .i64 i, .int .i64 s] 3)).alloc (.cells #[.int .i64 y', .int .i64 m', .int .i64 d', .int .i64 h', .int .i64 i', .int .i64 s'] 3) = X at *
  go_loopw [12] (fun iv x => ∃ j : Nat, j ≤ 6 ∧ iv = .int .i64 j ∧ (∀ n, n < j → fld y m d h i s n = fld y' m' d' h' i' s' n) ∧ Same X x) (fun iv _ => 6 - (intOf iv).toNat)
  case atStart => exact ⟨0, by omega, rfl, fun n hn => by omega, ⟨rfl, rfl, rfl⟩⟩
  case round =>
    rename_i wx
    obtain ⟨j, hj, rfl, heq, hsame⟩ := hrel
    have HE := Lib.hid heq; clear heq
    have HS := Lib.hid hsame; clear hsame
    by_cases hlt : j < 6
    · have ca := (HS.out.cell ⟨w3.heap.size, j, none⟩).trans (HA.out j hlt)
      have cb := (HS.out.cell ⟨w3.heap.size + 1, j, none⟩).trans (HB.out j hlt)
      have i1 : (0 : Int) ≤ (j : Int) := by omega
      have i2 : (j : Int) < 6 := by omega
      by_cases hf : fld y m d h i s j = fld y' m' d' h' i' s' j
      · have hb : (fld y m d h i s j == fld y' m' d' h' i' s' j) = true := by simpa using hf
        go_wp2_with fail
        go_quiet (fail)
        go_wp2
        go_roundw
        case rel => exact ⟨j + 1, by omega, by go_num, fun n hn => by
          by_cases hn' : n < j
          · exact HE.out n hn'
          · rw [show n = j by omega]; exact hf, ⟨HS.out.heap, HS.out.os, HS.out.output⟩⟩
        case measure => simp [intOf]; omega
      · have hb : (fld y m d h i s j == fld y' m' d' h' i' s' j) = false := by simpa using hf
        by_cases hl : fld y m d h i s j < fld y' m' d' h' i' s' j
        · have hs := sec_lex K1.out K2.out K3.out K4.out j hlt HE.out hl
          have hn : (sec y m d h i s == sec y' m' d' h' i' s') = false := by simpa using (show ¬ sec y m d h i s = sec y' m' d' h' i' s' by omega)
          go_wp2_with fail
          go_quiet (fail)
          go_wp2_with fail
          go_quiet (fail)
          go_wp2
          go_ret
          exact ⟨ret_bool (show (sec y m d h i s != sec y' m' d' h' i' s') = true by unfold bne; rw [hn]; rfl), (Same.kept ⟨HS.out.heap, HS.out.os, HS.out.output⟩ KX.out)⟩
        · have hl' := sec_lex K3.out K4.out K1.out K2.out j hlt (fun n hn => (HE.out n hn).symm) (by omega)
          have d1 : decide (fld y m d h i s j < fld y' m' d' h' i' s' j) = false := decide_eq_false hl
          have d2 : decide (sec y m d h i s < sec y' m' d' h' i' s') = false := decide_eq_false (by omega)
          have hn : (sec y m d h i s == sec y' m' d' h' i' s') = false := by simpa using (show ¬ sec y m d h i s = sec y' m' d' h' i' s' by omega)
          clear hl hl'
          go_wp2_with fail
          go_quiet (fail)
          go_wp2_with fail
          go_quiet (fail)
          go_wp2
          go_ret
          exact ⟨ret_bool (show (sec y m d h i s != sec y' m' d' h' i' s') = true by unfold bne; rw [hn]; rfl), (Same.kept ⟨HS.out.heap, HS.out.os, HS.out.output⟩ KX.out)⟩
    · have e0 : y = y' := HE.out 0 (by omega)
      have e1 : m = m' := HE.out 1 (by omega)
      have e2 : d = d' := HE.out 2 (by omega)
      have e3 : h = h' := HE.out 3 (by omega)
      have e4 : i = i' := HE.out 4 (by omega)
      have e5 : s = s' := HE.out 5 (by omega)
      subst e0 e1 e2 e3 e4 e5
      go_wp2
      go_ret
      exact ⟨rfl, HS.out.kept KX.out⟩
set_option maxHeartbeats 4000000 in
theorem walkRises (y m d h i s y' m' d' h' i' s' : Int) (w : World) (htab : Tab w) :
    Calls Tryd.prog 7 #[civ y m d h i s, civ y' m' d' h' i' s'] w fun e w' => e = .returned (.bool true) ∧ Kept w w' := by
  by_cases h1 : okP y m d ∧ tmB h i s = true
  · by_cases h2 : okP y' m' d' ∧ tmB h' i' s' = true
    · exact walkRises_yes y m d h i s y' m' d' h' i' s' w htab h1.1 h1.2 h2.1 h2.2
    have H1 := Lib.hid h1; clear h1
    have H2 := Lib.hid h2; clear h2
    have HT := Lib.hid htab; clear htab
    have g0 := (Kept.refl w).alloc (.cells #[.int .i64 y, .int .i64 m, .int .i64 d, .int .i64 h, .int .i64 i, .int .i64 s] 23)
    go_enter Tryd.func7, Tryd.ntmps7
    go_wp2_with fail
    refine (awake_yes _ ((g0.alloc _).tab' HT.out)).mono ?_
    rintro e w1 ⟨rfl, k1⟩
    have a0 := (k1.back).new 0 rfl
    have a1 := (k1.back).new 1 rfl
    have a2 := (k1.back).new 2 rfl
    have a3 := (k1.back).new 3 rfl
    have a4 := (k1.back).new 4 rfl
    have a5 := (k1.back).new 5 rfl
    have b0 : w1.cell? ⟨w.heap.size + 1, 0, none⟩ = some (.int .i64 y') := by have := (k1).new 0 rfl; simpa using this
    have b1 : w1.cell? ⟨w.heap.size + 1, 1, none⟩ = some (.int .i64 m') := by have := (k1).new 1 rfl; simpa using this
    have b2 : w1.cell? ⟨w.heap.size + 1, 2, none⟩ = some (.int .i64 d') := by have := (k1).new 2 rfl; simpa using this
    have b3 : w1.cell? ⟨w.heap.size + 1, 3, none⟩ = some (.int .i64 h') := by have := (k1).new 3 rfl; simpa using this
    have b4 : w1.cell? ⟨w.heap.size + 1, 4, none⟩ = some (.int .i64 i') := by have := (k1).new 4 rfl; simpa using this
    have b5 : w1.cell? ⟨w.heap.size + 1, 5, none⟩ = some (.int .i64 s') := by have := (k1).new 5 rfl; simpa using this
    go_wp2_with fail
    clear a0 b0 a1 b1 a2 b2 a3 b3 a4 b4 a5 b5
    refine (of_yes y m d h i s _ H1.out.1 H1.out.2).mono ?_
    rintro e w2 ⟨rfl, k2⟩
    have q2 := k1.trans k2
    have a0 := (q2.back).new 0 rfl
    have a1 := (q2.back).new 1 rfl
    have a2 := (q2.back).new 2 rfl
    have a3 := (q2.back).new 3 rfl
    have a4 := (q2.back).new 4 rfl
    have a5 := (q2.back).new 5 rfl
    have b0 : w2.cell? ⟨w.heap.size + 1, 0, none⟩ = some (.int .i64 y') := by have := (q2).new 0 rfl; simpa using this
    have b1 : w2.cell? ⟨w.heap.size + 1, 1, none⟩ = some (.int .i64 m') := by have := (q2).new 1 rfl; simpa using this
    have b2 : w2.cell? ⟨w.heap.size + 1, 2, none⟩ = some (.int .i64 d') := by have := (q2).new 2 rfl; simpa using this
    have b3 : w2.cell? ⟨w.heap.size + 1, 3, none⟩ = some (.int .i64 h') := by have := (q2).new 3 rfl; simpa using this
    have b4 : w2.cell? ⟨w.heap.size + 1, 4, none⟩ = some (.int .i64 i') := by have := (q2).new 4 rfl; simpa using this
    have b5 : w2.cell? ⟨w.heap.size + 1, 5, none⟩ = some (.int .i64 s') := by have := (q2).new 5 rfl; simpa using this
    go_wp2_with fail
    clear a0 b0 a1 b1 a2 b2 a3 b3 a4 b4 a5 b5
    refine (of_not y' m' d' h' i' s' _ H2.out).mono ?_
    rintro e w3 ⟨rfl, k3⟩
    have KQ := Lib.hid (q2.trans k3).back.back
    clear k1 k2 k3 q2 g0
    go_wp2
    go_ret
    exact ⟨rfl, KQ.out⟩
  · have H1 := Lib.hid h1; clear h1
    have HT := Lib.hid htab; clear htab
    by_cases h2 : okP y' m' d' ∧ tmB h' i' s' = true
    · have H2 := Lib.hid h2; clear h2
      have g0 := (Kept.refl w).alloc (.cells #[.int .i64 y, .int .i64 m, .int .i64 d, .int .i64 h, .int .i64 i, .int .i64 s] 23)
      go_enter Tryd.func7, Tryd.ntmps7
      go_wp2_with fail
      refine (awake_yes _ ((g0.alloc _).tab' HT.out)).mono ?_
      rintro e w1 ⟨rfl, k1⟩
      have a0 := (k1.back).new 0 rfl
      have a1 := (k1.back).new 1 rfl
      have a2 := (k1.back).new 2 rfl
      have a3 := (k1.back).new 3 rfl
      have a4 := (k1.back).new 4 rfl
      have a5 := (k1.back).new 5 rfl
      have b0 : w1.cell? ⟨w.heap.size + 1, 0, none⟩ = some (.int .i64 y') := by have := (k1).new 0 rfl; simpa using this
      have b1 : w1.cell? ⟨w.heap.size + 1, 1, none⟩ = some (.int .i64 m') := by have := (k1).new 1 rfl; simpa using this
      have b2 : w1.cell? ⟨w.heap.size + 1, 2, none⟩ = some (.int .i64 d') := by have := (k1).new 2 rfl; simpa using this
      have b3 : w1.cell? ⟨w.heap.size + 1, 3, none⟩ = some (.int .i64 h') := by have := (k1).new 3 rfl; simpa using this
      have b4 : w1.cell? ⟨w.heap.size + 1, 4, none⟩ = some (.int .i64 i') := by have := (k1).new 4 rfl; simpa using this
      have b5 : w1.cell? ⟨w.heap.size + 1, 5, none⟩ = some (.int .i64 s') := by have := (k1).new 5 rfl; simpa using this
      go_wp2_with fail
      clear a0 b0 a1 b1 a2 b2 a3 b3 a4 b4 a5 b5
      refine (of_not y m d h i s _ H1.out).mono ?_
      rintro e w2 ⟨rfl, k2⟩
      have q2 := k1.trans k2
      have a0 := (q2.back).new 0 rfl
      have a1 := (q2.back).new 1 rfl
      have a2 := (q2.back).new 2 rfl
      have a3 := (q2.back).new 3 rfl
      have a4 := (q2.back).new 4 rfl
      have a5 := (q2.back).new 5 rfl
      have b0 : w2.cell? ⟨w.heap.size + 1, 0, none⟩ = some (.int .i64 y') := by have := (q2).new 0 rfl; simpa using this
      have b1 : w2.cell? ⟨w.heap.size + 1, 1, none⟩ = some (.int .i64 m') := by have := (q2).new 1 rfl; simpa using this
      have b2 : w2.cell? ⟨w.heap.size + 1, 2, none⟩ = some (.int .i64 d') := by have := (q2).new 2 rfl; simpa using this
      have b3 : w2.cell? ⟨w.heap.size + 1, 3, none⟩ = some (.int .i64 h') := by have := (q2).new 3 rfl; simpa using this
      have b4 : w2.cell? ⟨w.heap.size + 1, 4, none⟩ = some (.int .i64 i') := by have := (q2).new 4 rfl; simpa using this
      have b5 : w2.cell? ⟨w.heap.size + 1, 5, none⟩ = some (.int .i64 s') := by have := (q2).new 5 rfl; simpa using this
      go_wp2_with fail
      clear a0 b0 a1 b1 a2 b2 a3 b3 a4 b4 a5 b5
      refine (of_yes y' m' d' h' i' s' _ H2.out.1 H2.out.2).mono ?_
      rintro e w3 ⟨rfl, k3⟩
      have KQ := Lib.hid (q2.trans k3).back.back
      clear k1 k2 k3 q2 g0
      go_wp2
      go_ret
      exact ⟨rfl, KQ.out⟩
    · have H2 := Lib.hid h2; clear h2
      have g0 := (Kept.refl w).alloc (.cells #[.int .i64 y, .int .i64 m, .int .i64 d, .int .i64 h, .int .i64 i, .int .i64 s] 23)
      go_enter Tryd.func7, Tryd.ntmps7
      go_wp2_with fail
      refine (awake_yes _ ((g0.alloc _).tab' HT.out)).mono ?_
      rintro e w1 ⟨rfl, k1⟩
      have a0 := (k1.back).new 0 rfl
      have a1 := (k1.back).new 1 rfl
      have a2 := (k1.back).new 2 rfl
      have a3 := (k1.back).new 3 rfl
      have a4 := (k1.back).new 4 rfl
      have a5 := (k1.back).new 5 rfl
      have b0 : w1.cell? ⟨w.heap.size + 1, 0, none⟩ = some (.int .i64 y') := by have := (k1).new 0 rfl; simpa using this
      have b1 : w1.cell? ⟨w.heap.size + 1, 1, none⟩ = some (.int .i64 m') := by have := (k1).new 1 rfl; simpa using this
      have b2 : w1.cell? ⟨w.heap.size + 1, 2, none⟩ = some (.int .i64 d') := by have := (k1).new 2 rfl; simpa using this
      have b3 : w1.cell? ⟨w.heap.size + 1, 3, none⟩ = some (.int .i64 h') := by have := (k1).new 3 rfl; simpa using this
      have b4 : w1.cell? ⟨w.heap.size + 1, 4, none⟩ = some (.int .i64 i') := by have := (k1).new 4 rfl; simpa using this
      have b5 : w1.cell? ⟨w.heap.size + 1, 5, none⟩ = some (.int .i64 s') := by have := (k1).new 5 rfl; simpa using this
      go_wp2_with fail
      clear a0 b0 a1 b1 a2 b2 a3 b3 a4 b4 a5 b5
      refine (of_not y m d h i s _ H1.out).mono ?_
      rintro e w2 ⟨rfl, k2⟩
      have q2 := k1.trans k2
      have a0 := (q2.back).new 0 rfl
      have a1 := (q2.back).new 1 rfl
      have a2 := (q2.back).new 2 rfl
      have a3 := (q2.back).new 3 rfl
      have a4 := (q2.back).new 4 rfl
      have a5 := (q2.back).new 5 rfl
      have b0 : w2.cell? ⟨w.heap.size + 1, 0, none⟩ = some (.int .i64 y') := by have := (q2).new 0 rfl; simpa using this
      have b1 : w2.cell? ⟨w.heap.size + 1, 1, none⟩ = some (.int .i64 m') := by have := (q2).new 1 rfl; simpa using this
      have b2 : w2.cell? ⟨w.heap.size + 1, 2, none⟩ = some (.int .i64 d') := by have := (q2).new 2 rfl; simpa using this
      have b3 : w2.cell? ⟨w.heap.size + 1, 3, none⟩ = some (.int .i64 h') := by have := (q2).new 3 rfl; simpa using this
      have b4 : w2.cell? ⟨w.heap.size + 1, 4, none⟩ = some (.int .i64 i') := by have := (q2).new 4 rfl; simpa using this
      have b5 : w2.cell? ⟨w.heap.size + 1, 5, none⟩ = some (.int .i64 s') := by have := (q2).new 5 rfl; simpa using this
      go_wp2_with fail
      clear a0 b0 a1 b1 a2 b2 a3 b3 a4 b4 a5 b5
      refine (of_not y' m' d' h' i' s' _ H2.out).mono ?_
      rintro e w3 ⟨rfl, k3⟩
      have KQ := Lib.hid (q2.trans k3).back.back
      clear k1 k2 k3 q2 g0
      go_wp2
      go_ret
      exact ⟨rfl, KQ.out⟩
end Go.Proofs.YtlmjopembcifiaaDoor
