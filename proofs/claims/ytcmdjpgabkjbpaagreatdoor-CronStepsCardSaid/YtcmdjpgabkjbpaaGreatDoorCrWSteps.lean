/- A range with a step has the first number, and each that is some steps more, up to the last one. -/
import Derived.Test.YtcmdjpgabkjbpaaGreatDoorCrStepP
import Derived.Test.YtcmdjpgabkjbpaaGreatDoorCrRefA
set_option linter.unusedVariables false
namespace Go.Proofs.YtcmdjpgabkjbpaaGreatDoor
open Go.ChangeShapes Go.WideShapes Go.ChangeAt Go.RowKit
open Crn Civ
theorem lhas_any (v : Value) (l : List Int) (n : Int) (w : World) (hv : Rs w v l) : Calls Tryz.prog 25 #[v, .int .i64 n] w fun e w' => e = .returned (.bool (hasB l n)) ∧ w = w' := rhas_any v l n w hv
theorem rg_text (a b s : Int) : (⟨(d2 a).toArray⟩ ++ ⟨#[45]⟩ ++ ⟨(d2 b).toArray⟩ ++ ⟨#[47]⟩ ++ ⟨(d2 s).toArray⟩ ++ ⟨#[32, 42, 32, 42, 32, 42, 32, 42]⟩ : ByteArray) = ⟨(rgS a b s ++ st4).toArray⟩ := by
  apply ByteArray.ext; simp [ByteArray.data_append, rgS, st4]
theorem st_text (s : Int) : (⟨#[42, 47]⟩ ++ ⟨(d2 s).toArray⟩ ++ ⟨#[32, 42, 32, 42, 32, 42, 32, 42]⟩ : ByteArray) = ⟨(stS s ++ st4).toArray⟩ := by
  apply ByteArray.ext; simp [ByteArray.data_append, stS, st4]
theorem rg_len (a b s : Int) : (rgS a b s ++ st4).length ≤ 20 := by
  have := (d2_len a).1; have := (d2_len b).1; have := (d2_len s).1
  simp [rgS, st4]; omega
theorem st_len (s : Int) : (stS s ++ st4).length ≤ 20 := by
  have := (d2_len s).1
  simp [stS, st4]; omega
set_option maxRecDepth 100000 in
set_option maxHeartbeats 4000000 in
theorem steps_walk (a b s : Int) (w : World) (htab : Tab w) : Calls Tryz.prog 8 #[.int .i64 a, .int .i64 b, .int .i64 s] w fun e w' => e = .returned (.bool true) ∧ Kept w w' := by
  have T0 := Lib.hid (Tb.start htab)
  clear htab
  go_enter Tryz.func8, Tryz.ntmps8
  go_wp2_with fail
  refine (awake_yes _ T0.out.tab).mono ?_
  rintro e x1 ⟨rfl, k1⟩
  have K1 := Lib.hid k1; have T1 := Lib.hid (T0.out.kept k1)
  clear k1 T0
  by_cases g1 : a < 0
  · go_wp2
    go_ret
    exact ⟨rfl, K1.out⟩
  by_cases g2 : b < a
  · go_wp2
    go_ret
    exact ⟨rfl, K1.out⟩
  by_cases g3 : 59 < b
  · go_wp2
    go_ret
    exact ⟨rfl, K1.out⟩
  by_cases g4 : s < 1
  · go_wp2
    go_ret
    exact ⟨rfl, K1.out⟩
  by_cases g5 : 99 < s
  · go_wp2
    go_ret
    exact ⟨rfl, K1.out⟩
  obtain ⟨A, a1, a2, a3, a4⟩ := rg_ok a b s (by omega) (by omega) (by omega) (by omega) (by omega)
  obtain ⟨B, b1, b2, b3⟩ := st_ok s (by omega) (by omega)
  have A1 := Lib.hid a1; have A4 := Lib.hid a4; have B1 := Lib.hid b1; have B3 := Lib.hid b3
  clear a1 a4 b1 b3
  have hla := (d2_len a).1; have hlb := (d2_len b).1; have hls := (d2_len s).1
  go_wp2_with fail
  refine (ldigits_any a (by omega) (by omega) _).mono ?_
  rintro e y1 ⟨rfl, j1⟩
  go_wp2_with fail
  refine (ldigits_any b (by omega) (by omega) _).mono ?_
  rintro e y2 ⟨rfl, j2⟩
  go_wp2_with fail
  refine (ldigits_any s (by omega) (by omega) _).mono ?_
  rintro e y3 ⟨rfl, j3⟩
  have K2 := Lib.hid (K1.out.trans (j1.trans (j2.trans j3))); have T2 := Lib.hid (T1.out.kept (j1.trans (j2.trans j3)))
  clear j1 j2 j3 K1 T1
  have HT := Lib.hid (rg_text a b s)
  have HT2 := Lib.hid (st_text s)
  go_wp2_with fail
  rw [HT.out]
  have hs2 := K2.out.size
  refine (parse_any (rgS a b s ++ st4) w.heap.size _ T2.out hs2 (by have := rg_len a b s; omega)).mono ?_
  intro e x2 hp
  obtain ⟨sa, rfl, ca, k2⟩ := parsed (by have := rg_len a b s; omega) A1.out hp
  have HZ2 := Lib.hid (box_z x2)
  have k3 := k2.trans (box_k x2 sa A.st)
  have BA3 := Lib.hid (box_b x2 sa A.st)
  have ho2 := cr_ones A.st ca
  have CA3 := Lib.hid (ca.kept (box_k x2 sa A.st))
  have K3 := Lib.hid (K2.out.trans k3); have T3 := Lib.hid (T2.out.kept k3)
  clear hp ca k2 k3 K2 T2 hs2
  go_upto_region 6 with (refine wpList_store_row rfl 27 _ _ rfl x2.heap.size _ rfl rfl 27 _ HZ2.out (by kernel_rfl) rfl ho2 ?_)
  generalize (x2.alloc (.cells z10 27)).setRow x2.heap.size (cr10 sa A.st) = x3 at *
  have hs3 := K3.out.size
  go_wp2_with fail
  refine (ldigits_any s (by omega) (by omega) _).mono ?_
  rintro e x4 ⟨rfl, k4⟩
  go_wp2_with fail
  rw [HT2.out]
  refine (parse_any (stS s ++ st4) w.heap.size _ (T3.out.kept k4) (Nat.le_trans hs3 k4.size) (by have := st_len s; omega)).mono ?_
  intro e x5 hp
  obtain ⟨sb, rfl, cb, k5⟩ := parsed (by have := st_len s; omega) B1.out hp
  have HZ5 := Lib.hid (box_z x5)
  have k6 := k4.trans (k5.trans (box_k x5 sb B.st))
  have BB6 := Lib.hid (box_b x5 sb B.st)
  have ho5 := cr_ones B.st cb
  have CB6 := Lib.hid (cb.kept (box_k x5 sb B.st))
  have K6 := Lib.hid (K3.out.trans k6); have CA6 := Lib.hid (CA3.out.kept k6); have BA6 := Lib.hid (BA3.out.kept k6)
  clear hp cb k4 k5 k6 K3 T3 CA3 BA3 ho2 HZ2
  go_upto_region 7 with (refine wpList_store_row rfl 27 _ _ rfl x5.heap.size _ rfl rfl 27 _ HZ5.out (by kernel_rfl) rfl ho5 ?_)
  generalize (x5.alloc (.cells z10 27)).setRow x5.heap.size (cr10 sb B.st) = x6 at *
  clear ho5 HZ5
  have e5 := cell_of (j := 5) BA6.out rfl
  have e6 := cell_of (j := 6) BA6.out rfl
  have v5 := cell_of (j := 5) BB6.out rfl
  have e0 := cell_of (j := 0) BA6.out rfl
  have v0 := cell_of (j := 0) BB6.out rfl
  have ra := CA6.out 0 (by omega)
  have rb := CB6.out 0 (by omega)
  change x6.cell? ⟨x2.heap.size, 5, none⟩ = some (.bool (A.st 0)) at e5
  change x6.cell? ⟨x2.heap.size, 6, none⟩ = some (.bool (A.st 1)) at e6
  change x6.cell? ⟨x5.heap.size, 5, none⟩ = some (.bool (B.st 0)) at v5
  change x6.cell? ⟨x2.heap.size, 0, none⟩ = some (sa 0) at e0
  change x6.cell? ⟨x5.heap.size, 0, none⟩ = some (sb 0) at v0
  rw [a2] at e5; rw [a3] at e6; rw [b2] at v5
  generalize sa 0 = va at *
  generalize sb 0 = vb at *
  have ra' := Lib.hid ra; have rb' := Lib.hid rb
  clear ra rb
  go_wp2_with fail
  go_loopw [13] (fun i y => y = x6 ∧ ∃ k : Nat, k ≤ 60 ∧ i = .int .i64 k) (fun i _ => 60 - (intOf i).toNat)
  case atStart => exact ⟨rfl, 0, by omega, rfl⟩
  case round =>
    obtain ⟨rfl, k, hk, rfl⟩ := hrel
    by_cases hlt : k < 60
    · have HA := Lib.hid (A4.out k (by omega) (by omega))
      have HB := Lib.hid (B3.out k (by omega) (by omega))
      have R1 := Lib.hid (lhas_any va (A.L 0) k _ ra'.out)
      have R2 := Lib.hid (lhas_any vb (B.L 0) k _ rb'.out)
      generalize hasB (A.L 0) k = ba at *
      generalize hasB (B.L 0) k = bb at *
      clear A4 B3 CA6 CB6 BA6 BB6 A1 B1 HT HT2
      go_wp2_with fail
      refine R1.out.mono ?_
      rintro e y1 ⟨rfl, rfl⟩
      go_wp2_with fail
      refine R2.out.mono ?_
      rintro e y2 ⟨rfl, rfl⟩
      have m1 : a ≤ (k : Int) → ((k : Int) - a).tmod s = ((k : Int) - a) % s := fun h => Int.tmod_eq_emod_of_nonneg (by omega)
      have m2 : (k : Int).tmod s = (k : Int) % s := Int.tmod_eq_emod_of_nonneg (by omega)
      have hsne : ¬ s = 0 := by omega
      by_cases p4 : (k : Int) % s = 0
      · obtain rfl : bb = true := HB.out.trans (decide_eq_true p4)
        have q4 : (k : Int).tmod s = 0 := m2.trans p4
        clear HB m2
        by_cases p1 : a ≤ (k : Int)
        · by_cases p2 : (k : Int) ≤ b
          · by_cases p3 : ((k : Int) - a) % s = 0
            · obtain rfl : ba = true := HA.out.trans (decide_eq_true ⟨by omega, by omega, p3⟩)
              have q3 : ((k : Int) - a).tmod s = 0 := (m1 p1).trans p3
              clear m1 HA
              go_wp2
              go_roundw
              case rel => exact ⟨trivial, k + 1, hlt, by go_num⟩
              case measure => simp [intOf]; omega
            · obtain rfl : ba = false := HA.out.trans (decide_eq_false (fun h => p3 h.2.2))
              have q3 : ¬ ((k : Int) - a).tmod s = 0 := fun h => p3 ((m1 p1).symm.trans h)
              clear m1 HA
              go_wp2
              go_roundw
              case rel => exact ⟨trivial, k + 1, hlt, by go_num⟩
              case measure => simp [intOf]; omega
          · obtain rfl : ba = false := HA.out.trans (decide_eq_false (fun h => p2 h.2.1))
            clear m1 HA
            go_wp2
            go_roundw
            case rel => exact ⟨trivial, k + 1, hlt, by go_num⟩
            case measure => simp [intOf]; omega
        · obtain rfl : ba = false := HA.out.trans (decide_eq_false (fun h => p1 h.1))
          clear m1 HA
          go_wp2
          go_roundw
          case rel => exact ⟨trivial, k + 1, hlt, by go_num⟩
          case measure => simp [intOf]; omega
      · obtain rfl : bb = false := HB.out.trans (decide_eq_false p4)
        have q4 : ¬ (k : Int).tmod s = 0 := fun h => p4 (m2.symm.trans h)
        clear HB m2
        by_cases p1 : a ≤ (k : Int)
        · by_cases p2 : (k : Int) ≤ b
          · by_cases p3 : ((k : Int) - a) % s = 0
            · obtain rfl : ba = true := HA.out.trans (decide_eq_true ⟨by omega, by omega, p3⟩)
              have q3 : ((k : Int) - a).tmod s = 0 := (m1 p1).trans p3
              clear m1 HA
              go_wp2
              go_roundw
              case rel => exact ⟨trivial, k + 1, hlt, by go_num⟩
              case measure => simp [intOf]; omega
            · obtain rfl : ba = false := HA.out.trans (decide_eq_false (fun h => p3 h.2.2))
              have q3 : ¬ ((k : Int) - a).tmod s = 0 := fun h => p3 ((m1 p1).symm.trans h)
              have p5 : (((k : Int) - a) % s == 0) = false := beq_eq_false_iff_ne.2 p3
              have p6 : ((k : Int) % s == 0) = false := beq_eq_false_iff_ne.2 p4
              clear m1 HA
              go_wp2
              go_roundw
              case rel => exact ⟨trivial, k + 1, hlt, by go_num⟩
              case measure => simp [intOf]; omega
          · obtain rfl : ba = false := HA.out.trans (decide_eq_false (fun h => p2 h.2.1))
            clear m1 HA
            go_wp2
            go_roundw
            case rel => exact ⟨trivial, k + 1, hlt, by go_num⟩
            case measure => simp [intOf]; omega
        · obtain rfl : ba = false := HA.out.trans (decide_eq_false (fun h => p1 h.1))
          clear m1 HA
          go_wp2
          go_roundw
          case rel => exact ⟨trivial, k + 1, hlt, by go_num⟩
          case measure => simp [intOf]; omega
    · obtain rfl : k = 60 := by omega
      go_wp2
      go_ret
      exact ⟨rfl, K6.out⟩
end Go.Proofs.YtcmdjpgabkjbpaaGreatDoor
