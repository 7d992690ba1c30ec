/- The law ZoneRules, walked. -/
import Derived.Test.YtomnjdammfiadaaDoorZnBack
import Derived.Test.YtomnjdammfiadaaDoorZnRefR
namespace Go.Proofs.YtomnjdammfiadaaDoor
open Go.ChangeShapes Go.WideShapes Go.ChangeAt Go.RowKit
open Zn
abbrev zR (k m x d a : Int) : Zo := ⟨[83, 84, 68], 0, true, [68, 83, 84], 3600, ⟨k, m, x, d, a⟩, ⟨k, m, x, d, a⟩⟩
theorem may_R {k m x d a : Int} (h : mayR ⟨k, m, x, d, a⟩ = true) : mayZ (zR k m x d a) = true := by
  simp only [mayZ, if_true]; rw [h]; rfl
theorem tt_0 : tt (-0) = [48] := by
  simp only [tt, ttU]
  rw [show (Int.natAbs (-0)) / 3600 = 0 from rfl, Lib.decDigits_one (by omega)]; rfl
theorem tt_1 : tt 3600 = [49] := by
  simp only [tt, ttU]
  rw [show (Int.natAbs 3600) / 3600 = 1 from rfl, Lib.decDigits_one (by omega)]; rfl
theorem wt_R (k m x d a : Int) : wt (zR k m x d a) = [83, 84, 68, 48, 68, 83, 84, 44] ++ rr ⟨k, m, x, d, a⟩ ++ [44] ++ rr ⟨k, m, x, d, a⟩ := by
  simp only [wt, wtA, if_true]
  rw [if_pos (by omega), tt_0, rt_rr, show nt [83, 84, 68] = [83, 84, 68] from rfl, show nt [68, 83, 84] = [68, 83, 84] from rfl]
  simp
theorem mayR_at {k m x d a b : Int} (h : mayR ⟨k, m, x, d, a⟩ = true) (h1 : -604799 ≤ b) (h2 : b ≤ 604799) : mayR ⟨k, m, x, d, b⟩ = true := by
  simp only [mayR, decide_eq_true_eq] at h ⊢; omega
theorem mk_set {x : World} {n : Nat} {k m y d a : Int} (h : x.heap[n]? = some (.cells (ru5 k m y d a) 23)) (b : Int) : (x.setCell ⟨n, 4, none⟩ (.int .i64 b)).heap[n]? = some (.cells (ru5 k m y d b) 23) := block_set h _
set_option maxRecDepth 100000 in
set_option maxHeartbeats 2000000 in
theorem rules_not (r : Ru) (b : Bool) (w : World) (h : mayR r = false) (htab : Tab w) :
    Calls Tryd.prog 8 #[ruV r, .bool b] w fun e w' => e = .returned (.bool true) ∧ Kept w w' := by
  have HT := Lib.hid htab; clear htab
  have H := Lib.hid h; clear h
  have KW := Lib.hid ((Kept.refl w).alloc (.cells (ru5 r.k r.m r.w r.d r.a) 23))
  have B0 := Lib.hid (new_block w (.cells (ru5 r.k r.m r.w r.d r.a) 23))
  go_enter Tryd.func8, Tryd.ntmps8
  go_upto_region 1 with (fail)
  have LT := Lib.hid (show w.heap.size < (w.alloc (.cells (ru5 r.k r.m r.w r.d r.a) 23)).heap.size by simp)
  generalize w.alloc (.cells (ru5 r.k r.m r.w r.d r.a) 23) = x at *
  go_wp2_with fail
  refine (awake_yes _ (KW.out.tab' HT.out)).mono ?_
  rintro e w1 ⟨rfl, k1⟩
  have B1 := (k1.block _ LT.out).trans B0.out
  have c0 := cell_of (j := 0) B1 rfl
  have c1 := cell_of (j := 1) B1 rfl
  have c2 := cell_of (j := 2) B1 rfl
  have c3 := cell_of (j := 3) B1 rfl
  have c4 := cell_of (j := 4) B1 rfl
  have K1 := Lib.hid (KW.out.trans k1)
  clear B1 k1 KW B0 LT
  go_wp2_with fail
  refine (rRule_any r _).mono ?_
  rintro e w2 ⟨rfl, k2⟩
  rw [H.out]
  clear c0 c1 c2 c3 c4
  go_wp2
  go_ret
  exact ⟨rfl, K1.out.trans k2⟩
set_option maxRecDepth 100000 in
set_option maxHeartbeats 4000000 in
theorem rules_0u (m x d a : Int) (w : World) (h : mayR ⟨0, m, x, d, a⟩ = true) (htab : Tab w) :
    Calls Tryd.prog 8 #[ruV ⟨0, m, x, d, a⟩, .bool true] w fun e w' => e = .returned (.bool true) ∧ Kept w w' := by
  have hv := h
  simp only [mayR, decide_eq_true_eq] at hv
  have MR := Lib.hid (mayR_at (b := 7200) h (by omega) (by omega))
  have MY := Lib.hid (may_R MR.out)
  have RX := Lib.hid (show rr ⟨0, m, x, d, 7200⟩ = ([74] ++ dec d ++ []) by simp [rr, rtK, rtA])
  have TX := Lib.hid (show wt (zR 0 m x d 7200) = [83, 84, 68, 48, 68, 83, 84, 44] ++ ([74] ++ dec d ++ []) ++ [44] ++ ([74] ++ dec d ++ []) by rw [wt_R, RX.out])
  have WL := Lib.hid (show ([83, 84, 68, 48, 68, 83, 84, 44] ++ ([74] ++ dec d ++ []) ++ [44] ++ ([74] ++ dec d ++ [])).length ≤ 100 by rw [← TX.out]; exact wt_len MY.out)
  have PR := Lib.hid (show prs ([83, 84, 68, 48, 68, 83, 84, 44] ++ ([74] ++ dec d ++ []) ++ [44] ++ ([74] ++ dec d ++ [])) = some (zR 0 m x d 7200) by rw [← TX.out]; exact prs_wt MY.out)
  have H := Lib.hid h
  have HT := Lib.hid htab; clear htab
  have d0 : 0 ≤ d := by omega
  have d9 : d ≤ 365 := by omega
  have l1 : (dec d).length ≤ 3 := dec_len3 (by omega)
  clear h hv
  have hE : ∀ W, (binOp .eql 25 (.agg #[.string ⟨#[83, 84, 68]⟩, .int .i64 0, .bool true, .string ⟨#[68, 83, 84]⟩, .int .i64 3600, .int .i64 0, .int .i64 m, .int .i64 x, .int .i64 d, .int .i64 7200, .int .i64 0, .int .i64 m, .int .i64 x, .int .i64 d, .int .i64 7200]) (.agg #[.string ⟨#[83, 84, 68]⟩, .int .i64 0, .bool true, .string ⟨#[68, 83, 84]⟩, .int .i64 3600, .int .i64 0, .int .i64 m, .int .i64 x, .int .i64 d, .int .i64 7200, .int .i64 0, .int .i64 m, .int .i64 x, .int .i64 d, .int .i64 7200])).run Tryd.prog W = .ok (.bool true) W := fun W => (eql_zone (zR 0 m x d 7200) (zR 0 m x d 7200) W).trans (by rw [zoE_refl])
  have KW := Lib.hid ((Kept.refl w).alloc (.cells (ru5 0 m x d a) 23))
  have B0 := Lib.hid (new_block w (.cells (ru5 0 m x d a) 23))
  have LT := Lib.hid (show w.heap.size < (w.alloc (.cells (ru5 0 m x d a) 23)).heap.size by simp)
  go_enter Tryd.func8, Tryd.ntmps8
  go_upto_region 1 with (fail)
  generalize w.alloc (.cells (ru5 0 m x d a) 23) = x0w at *
  go_wp2_with fail
  refine (awake_yes _ (KW.out.tab' HT.out)).mono ?_
  rintro e w1 ⟨rfl, k1⟩
  have B1 := Lib.hid ((k1.block _ LT.out).trans B0.out)
  have L1 := Lib.hid (Nat.lt_of_lt_of_le LT.out k1.size)
  have c0 := cell_of (j := 0) B1.out rfl
  have c1 := cell_of (j := 1) B1.out rfl
  have c2 := cell_of (j := 2) B1.out rfl
  have c3 := cell_of (j := 3) B1.out rfl
  have c4 := cell_of (j := 4) B1.out rfl
  have K1 := Lib.hid (KW.out.trans k1)
  clear k1 KW B0 LT
  go_wp2_with fail
  refine (rRule_any ⟨0, m, x, d, a⟩ _).mono ?_
  rintro e w2 ⟨rfl, k2⟩
  rw [H.out]
  clear c0 c1 c2 c3 c4
  have B2 := Lib.hid ((k2.block _ L1.out).trans B1.out)
  have K2 := Lib.hid (K1.out.trans k2)
  clear k2 K1 B1 L1
  have c4 := cell_of (j := 4) B2.out rfl
  have f4 := fro_of B2.out
  have B3 := Lib.hid (mk_set B2.out 7200)
  have K3 := Lib.hid (K2.out.setCell (a := ⟨w.heap.size, 4, none⟩) (Nat.le_refl _) (.int .i64 7200))
  go_upto_region 10 with (fail)
  clear c4 f4 B2 K2
  generalize w2.setCell ⟨w.heap.size, 4, none⟩ (.int .i64 7200) = x3 at *
  have c0 := cell_of (j := 0) B3.out rfl
  have c1 := cell_of (j := 1) B3.out rfl
  have c2 := cell_of (j := 2) B3.out rfl
  have c3 := cell_of (j := 3) B3.out rfl
  have c4 := cell_of (j := 4) B3.out rfl
  go_wp2_with fail
  refine (rNumber_any _ _ (by omega) (by omega)).mono ?_
  rintro e wq ⟨rfl, rfl⟩
  go_upto_region 17 with (fail)
  have N4 := Lib.hid (bz_new x3 (zR 0 m x d 7200))
  have K4 := Lib.hid (K3.out.alloc (.cells #[.string ⟨#[83, 84, 68]⟩, .int .i64 0, .bool true, .string ⟨#[68, 83, 84]⟩, .int .i64 3600, .int .i64 0, .int .i64 m, .int .i64 x, .int .i64 d, .int .i64 7200, .int .i64 0, .int .i64 m, .int .i64 x, .int .i64 d, .int .i64 7200] 25))
  clear c0 c1 c2 c3 c4
  generalize x3.alloc (.cells #[.string ⟨#[83, 84, 68]⟩, .int .i64 0, .bool true, .string ⟨#[68, 83, 84]⟩, .int .i64 3600, .int .i64 0, .int .i64 m, .int .i64 x, .int .i64 d, .int .i64 7200, .int .i64 0, .int .i64 m, .int .i64 x, .int .i64 d, .int .i64 7200] 25) = x5 at *
  generalize x3.heap.size = bz at *
  go_wp2_with (refine wpList_load_row rfl 25 _ rfl bz rfl 25 _ (0, 0) _ N4.out Tryd.underlying25 rfl (by kernel_rfl) ?_)
  refine (write_yes (zR 0 m x d 7200) _ MY.out (K4.out.tab' HT.out)).mono ?_
  rintro e w5 ⟨rfl, k5⟩
  rw [TX.out]
  have K5 := Lib.hid (K4.out.trans k5)
  have B5 := Lib.hid (N4.out.kept k5)
  clear k5 K4 N4
  go_wp2_with fail
  rw [show (ByteArray.mk #[83, 84, 68, 48, 68, 83, 84, 44] ++ (ByteArray.mk #[74] ++ ByteArray.mk (dec d).toArray) ++ ByteArray.mk #[] ++ ByteArray.mk #[44] ++ (ByteArray.mk #[74] ++ ByteArray.mk (dec d).toArray) ++ ByteArray.mk #[]) = ⟨([83, 84, 68, 48, 68, 83, 84, 44] ++ ([74] ++ dec d ++ []) ++ [44] ++ ([74] ++ dec d ++ [])).toArray⟩ by apply ByteArray.ext; simp [ByteArray.data_append]]
  refine (parse_any _ _ WL.out (K5.out.tab' HT.out)).mono ?_
  intro e w6 hp6
  rw [PR.out] at hp6
  obtain ⟨rfl, k6⟩ := hp6
  have N6 := Lib.hid (bz_new w6 (zR 0 m x d 7200))
  have K6 := Lib.hid ((K5.out.trans k6).alloc (.cells #[.string ⟨#[83, 84, 68]⟩, .int .i64 0, .bool true, .string ⟨#[68, 83, 84]⟩, .int .i64 3600, .int .i64 0, .int .i64 m, .int .i64 x, .int .i64 d, .int .i64 7200, .int .i64 0, .int .i64 m, .int .i64 x, .int .i64 d, .int .i64 7200] 25))
  have B6 := Lib.hid ((B5.out.kept k6).kept ((Kept.refl w6).alloc (.cells #[.string ⟨#[83, 84, 68]⟩, .int .i64 0, .bool true, .string ⟨#[68, 83, 84]⟩, .int .i64 3600, .int .i64 0, .int .i64 m, .int .i64 x, .int .i64 d, .int .i64 7200, .int .i64 0, .int .i64 m, .int .i64 x, .int .i64 d, .int .i64 7200] 25)))
  clear k6 K5 B5
  go_upto_region 19 with (fail)
  generalize w6.alloc (.cells #[.string ⟨#[83, 84, 68]⟩, .int .i64 0, .bool true, .string ⟨#[68, 83, 84]⟩, .int .i64 3600, .int .i64 0, .int .i64 m, .int .i64 x, .int .i64 d, .int .i64 7200, .int .i64 0, .int .i64 m, .int .i64 x, .int .i64 d, .int .i64 7200] 25) = x6 at *
  generalize w6.heap.size = bx at *
  have c0 : x6.cell? ⟨bx, 0, none⟩ = some (.string ⟨#[83, 84, 68]⟩) := N6.out.cs.c0
  have dd0 : x6.cell? ⟨bz, 0, none⟩ = some (.string ⟨#[83, 84, 68]⟩) := B6.out.cs.c0
  have c1 : x6.cell? ⟨bx, 1, none⟩ = some (.int .i64 0) := N6.out.cs.c1
  have d1 : x6.cell? ⟨bz, 1, none⟩ = some (.int .i64 0) := B6.out.cs.c1
  have c2 : x6.cell? ⟨bx, 2, none⟩ = some (.bool true) := N6.out.cs.c2
  have d2 : x6.cell? ⟨bz, 2, none⟩ = some (.bool true) := B6.out.cs.c2
  have c3 : x6.cell? ⟨bx, 3, none⟩ = some (.string ⟨#[68, 83, 84]⟩) := N6.out.cs.c3
  have d3 : x6.cell? ⟨bz, 3, none⟩ = some (.string ⟨#[68, 83, 84]⟩) := B6.out.cs.c3
  have c4 : x6.cell? ⟨bx, 4, none⟩ = some (.int .i64 3600) := N6.out.cs.c4
  have d4 : x6.cell? ⟨bz, 4, none⟩ = some (.int .i64 3600) := B6.out.cs.c4
  have c5 : x6.cell? ⟨bx, 5, none⟩ = some (.int .i64 0) := N6.out.cs.c5
  have d5 : x6.cell? ⟨bz, 5, none⟩ = some (.int .i64 0) := B6.out.cs.c5
  have c6 : x6.cell? ⟨bx, 6, none⟩ = some (.int .i64 m) := N6.out.cs.c6
  have dd6 : x6.cell? ⟨bz, 6, none⟩ = some (.int .i64 m) := B6.out.cs.c6
  have c7 : x6.cell? ⟨bx, 7, none⟩ = some (.int .i64 x) := N6.out.cs.c7
  have d7 : x6.cell? ⟨bz, 7, none⟩ = some (.int .i64 x) := B6.out.cs.c7
  have c8 : x6.cell? ⟨bx, 8, none⟩ = some (.int .i64 d) := N6.out.cs.c8
  have d8 : x6.cell? ⟨bz, 8, none⟩ = some (.int .i64 d) := B6.out.cs.c8
  have c9 : x6.cell? ⟨bx, 9, none⟩ = some (.int .i64 7200) := N6.out.cs.c9
  have dd9 : x6.cell? ⟨bz, 9, none⟩ = some (.int .i64 7200) := B6.out.cs.c9
  have c10 : x6.cell? ⟨bx, 10, none⟩ = some (.int .i64 0) := N6.out.cs.c10
  have d10 : x6.cell? ⟨bz, 10, none⟩ = some (.int .i64 0) := B6.out.cs.c10
  have c11 : x6.cell? ⟨bx, 11, none⟩ = some (.int .i64 m) := N6.out.cs.c11
  have d11 : x6.cell? ⟨bz, 11, none⟩ = some (.int .i64 m) := B6.out.cs.c11
  have c12 : x6.cell? ⟨bx, 12, none⟩ = some (.int .i64 x) := N6.out.cs.c12
  have d12 : x6.cell? ⟨bz, 12, none⟩ = some (.int .i64 x) := B6.out.cs.c12
  have c13 : x6.cell? ⟨bx, 13, none⟩ = some (.int .i64 d) := N6.out.cs.c13
  have d13 : x6.cell? ⟨bz, 13, none⟩ = some (.int .i64 d) := B6.out.cs.c13
  have c14 : x6.cell? ⟨bx, 14, none⟩ = some (.int .i64 7200) := N6.out.cs.c14
  have d14 : x6.cell? ⟨bz, 14, none⟩ = some (.int .i64 7200) := B6.out.cs.c14
  go_wp2
  go_ret
  exact ⟨ret_bool (by simp), K6.out⟩
set_option maxRecDepth 100000 in
set_option maxHeartbeats 4000000 in
theorem rules_0a (m x d a : Int) (w : World) (h : mayR ⟨0, m, x, d, a⟩ = true) (htab : Tab w) :
    Calls Tryd.prog 8 #[ruV ⟨0, m, x, d, a⟩, .bool false] w fun e w' => e = .returned (.bool true) ∧ Kept w w' := by
  have hv := h
  simp only [mayR, decide_eq_true_eq] at hv
  have MR := Lib.hid (mayR_at (b := 3600) h (by omega) (by omega))
  have MY := Lib.hid (may_R MR.out)
  have RX := Lib.hid (show rr ⟨0, m, x, d, 3600⟩ = ([74] ++ dec d ++ [47, 49]) by simp [rr, rtK, rtA, tt_1])
  have TX := Lib.hid (show wt (zR 0 m x d 3600) = [83, 84, 68, 48, 68, 83, 84, 44] ++ ([74] ++ dec d ++ [47, 49]) ++ [44] ++ ([74] ++ dec d ++ [47, 49]) by rw [wt_R, RX.out])
  have WL := Lib.hid (show ([83, 84, 68, 48, 68, 83, 84, 44] ++ ([74] ++ dec d ++ [47, 49]) ++ [44] ++ ([74] ++ dec d ++ [47, 49])).length ≤ 100 by rw [← TX.out]; exact wt_len MY.out)
  have PR := Lib.hid (show prs ([83, 84, 68, 48, 68, 83, 84, 44] ++ ([74] ++ dec d ++ [47, 49]) ++ [44] ++ ([74] ++ dec d ++ [47, 49])) = some (zR 0 m x d 3600) by rw [← TX.out]; exact prs_wt MY.out)
  have H := Lib.hid h
  have HT := Lib.hid htab; clear htab
  have d0 : 0 ≤ d := by omega
  have d9 : d ≤ 365 := by omega
  have l1 : (dec d).length ≤ 3 := dec_len3 (by omega)
  clear h hv
  have hE : ∀ W, (binOp .eql 25 (.agg #[.string ⟨#[83, 84, 68]⟩, .int .i64 0, .bool true, .string ⟨#[68, 83, 84]⟩, .int .i64 3600, .int .i64 0, .int .i64 m, .int .i64 x, .int .i64 d, .int .i64 3600, .int .i64 0, .int .i64 m, .int .i64 x, .int .i64 d, .int .i64 3600]) (.agg #[.string ⟨#[83, 84, 68]⟩, .int .i64 0, .bool true, .string ⟨#[68, 83, 84]⟩, .int .i64 3600, .int .i64 0, .int .i64 m, .int .i64 x, .int .i64 d, .int .i64 3600, .int .i64 0, .int .i64 m, .int .i64 x, .int .i64 d, .int .i64 3600])).run Tryd.prog W = .ok (.bool true) W := fun W => (eql_zone (zR 0 m x d 3600) (zR 0 m x d 3600) W).trans (by rw [zoE_refl])
  have KW := Lib.hid ((Kept.refl w).alloc (.cells (ru5 0 m x d a) 23))
  have B0 := Lib.hid (new_block w (.cells (ru5 0 m x d a) 23))
  have LT := Lib.hid (show w.heap.size < (w.alloc (.cells (ru5 0 m x d a) 23)).heap.size by simp)
  go_enter Tryd.func8, Tryd.ntmps8
  go_upto_region 1 with (fail)
  generalize w.alloc (.cells (ru5 0 m x d a) 23) = x0w at *
  go_wp2_with fail
  refine (awake_yes _ (KW.out.tab' HT.out)).mono ?_
  rintro e w1 ⟨rfl, k1⟩
  have B1 := Lib.hid ((k1.block _ LT.out).trans B0.out)
  have L1 := Lib.hid (Nat.lt_of_lt_of_le LT.out k1.size)
  have c0 := cell_of (j := 0) B1.out rfl
  have c1 := cell_of (j := 1) B1.out rfl
  have c2 := cell_of (j := 2) B1.out rfl
  have c3 := cell_of (j := 3) B1.out rfl
  have c4 := cell_of (j := 4) B1.out rfl
  have K1 := Lib.hid (KW.out.trans k1)
  clear k1 KW B0 LT
  go_wp2_with fail
  refine (rRule_any ⟨0, m, x, d, a⟩ _).mono ?_
  rintro e w2 ⟨rfl, k2⟩
  rw [H.out]
  clear c0 c1 c2 c3 c4
  have B2 := Lib.hid ((k2.block _ L1.out).trans B1.out)
  have K2 := Lib.hid (K1.out.trans k2)
  clear k2 K1 B1 L1
  have c4 := cell_of (j := 4) B2.out rfl
  have f4 := fro_of B2.out
  have B3 := Lib.hid (mk_set (mk_set B2.out 7200) 3600)
  have K3 := Lib.hid ((K2.out.setCell (a := ⟨w.heap.size, 4, none⟩) (Nat.le_refl _) (.int .i64 7200)).setCell (a := ⟨w.heap.size, 4, none⟩) (Nat.le_refl _) (.int .i64 3600))
  go_upto_region 10 with (fail)
  clear c4 f4 B2 K2
  generalize (w2.setCell ⟨w.heap.size, 4, none⟩ (.int .i64 7200)).setCell ⟨w.heap.size, 4, none⟩ (.int .i64 3600) = x3 at *
  have c0 := cell_of (j := 0) B3.out rfl
  have c1 := cell_of (j := 1) B3.out rfl
  have c2 := cell_of (j := 2) B3.out rfl
  have c3 := cell_of (j := 3) B3.out rfl
  have c4 := cell_of (j := 4) B3.out rfl
  go_wp2_with fail
  refine (rNumber_any _ _ (by omega) (by omega)).mono ?_
  rintro e wq ⟨rfl, rfl⟩
  go_upto_region 17 with (fail)
  have N4 := Lib.hid (bz_new x3 (zR 0 m x d 3600))
  have K4 := Lib.hid (K3.out.alloc (.cells #[.string ⟨#[83, 84, 68]⟩, .int .i64 0, .bool true, .string ⟨#[68, 83, 84]⟩, .int .i64 3600, .int .i64 0, .int .i64 m, .int .i64 x, .int .i64 d, .int .i64 3600, .int .i64 0, .int .i64 m, .int .i64 x, .int .i64 d, .int .i64 3600] 25))
  clear c0 c1 c2 c3 c4
  generalize x3.alloc (.cells #[.string ⟨#[83, 84, 68]⟩, .int .i64 0, .bool true, .string ⟨#[68, 83, 84]⟩, .int .i64 3600, .int .i64 0, .int .i64 m, .int .i64 x, .int .i64 d, .int .i64 3600, .int .i64 0, .int .i64 m, .int .i64 x, .int .i64 d, .int .i64 3600] 25) = x5 at *
  generalize x3.heap.size = bz at *
  go_wp2_with (refine wpList_load_row rfl 25 _ rfl bz rfl 25 _ (0, 0) _ N4.out Tryd.underlying25 rfl (by kernel_rfl) ?_)
  refine (write_yes (zR 0 m x d 3600) _ MY.out (K4.out.tab' HT.out)).mono ?_
  rintro e w5 ⟨rfl, k5⟩
  rw [TX.out]
  have K5 := Lib.hid (K4.out.trans k5)
  have B5 := Lib.hid (N4.out.kept k5)
  clear k5 K4 N4
  go_wp2_with fail
  rw [show (ByteArray.mk #[83, 84, 68, 48, 68, 83, 84, 44] ++ (ByteArray.mk #[74] ++ ByteArray.mk (dec d).toArray) ++ ByteArray.mk #[47, 49] ++ ByteArray.mk #[44] ++ (ByteArray.mk #[74] ++ ByteArray.mk (dec d).toArray) ++ ByteArray.mk #[47, 49]) = ⟨([83, 84, 68, 48, 68, 83, 84, 44] ++ ([74] ++ dec d ++ [47, 49]) ++ [44] ++ ([74] ++ dec d ++ [47, 49])).toArray⟩ by apply ByteArray.ext; simp [ByteArray.data_append]]
  refine (parse_any _ _ WL.out (K5.out.tab' HT.out)).mono ?_
  intro e w6 hp6
  rw [PR.out] at hp6
  obtain ⟨rfl, k6⟩ := hp6
  have N6 := Lib.hid (bz_new w6 (zR 0 m x d 3600))
  have K6 := Lib.hid ((K5.out.trans k6).alloc (.cells #[.string ⟨#[83, 84, 68]⟩, .int .i64 0, .bool true, .string ⟨#[68, 83, 84]⟩, .int .i64 3600, .int .i64 0, .int .i64 m, .int .i64 x, .int .i64 d, .int .i64 3600, .int .i64 0, .int .i64 m, .int .i64 x, .int .i64 d, .int .i64 3600] 25))
  have B6 := Lib.hid ((B5.out.kept k6).kept ((Kept.refl w6).alloc (.cells #[.string ⟨#[83, 84, 68]⟩, .int .i64 0, .bool true, .string ⟨#[68, 83, 84]⟩, .int .i64 3600, .int .i64 0, .int .i64 m, .int .i64 x, .int .i64 d, .int .i64 3600, .int .i64 0, .int .i64 m, .int .i64 x, .int .i64 d, .int .i64 3600] 25)))
  clear k6 K5 B5
  go_upto_region 19 with (fail)
  generalize w6.alloc (.cells #[.string ⟨#[83, 84, 68]⟩, .int .i64 0, .bool true, .string ⟨#[68, 83, 84]⟩, .int .i64 3600, .int .i64 0, .int .i64 m, .int .i64 x, .int .i64 d, .int .i64 3600, .int .i64 0, .int .i64 m, .int .i64 x, .int .i64 d, .int .i64 3600] 25) = x6 at *
  generalize w6.heap.size = bx at *
  have c0 : x6.cell? ⟨bx, 0, none⟩ = some (.string ⟨#[83, 84, 68]⟩) := N6.out.cs.c0
  have dd0 : x6.cell? ⟨bz, 0, none⟩ = some (.string ⟨#[83, 84, 68]⟩) := B6.out.cs.c0
  have c1 : x6.cell? ⟨bx, 1, none⟩ = some (.int .i64 0) := N6.out.cs.c1
  have d1 : x6.cell? ⟨bz, 1, none⟩ = some (.int .i64 0) := B6.out.cs.c1
  have c2 : x6.cell? ⟨bx, 2, none⟩ = some (.bool true) := N6.out.cs.c2
  have d2 : x6.cell? ⟨bz, 2, none⟩ = some (.bool true) := B6.out.cs.c2
  have c3 : x6.cell? ⟨bx, 3, none⟩ = some (.string ⟨#[68, 83, 84]⟩) := N6.out.cs.c3
  have d3 : x6.cell? ⟨bz, 3, none⟩ = some (.string ⟨#[68, 83, 84]⟩) := B6.out.cs.c3
  have c4 : x6.cell? ⟨bx, 4, none⟩ = some (.int .i64 3600) := N6.out.cs.c4
  have d4 : x6.cell? ⟨bz, 4, none⟩ = some (.int .i64 3600) := B6.out.cs.c4
  have c5 : x6.cell? ⟨bx, 5, none⟩ = some (.int .i64 0) := N6.out.cs.c5
  have d5 : x6.cell? ⟨bz, 5, none⟩ = some (.int .i64 0) := B6.out.cs.c5
  have c6 : x6.cell? ⟨bx, 6, none⟩ = some (.int .i64 m) := N6.out.cs.c6
  have dd6 : x6.cell? ⟨bz, 6, none⟩ = some (.int .i64 m) := B6.out.cs.c6
  have c7 : x6.cell? ⟨bx, 7, none⟩ = some (.int .i64 x) := N6.out.cs.c7
  have d7 : x6.cell? ⟨bz, 7, none⟩ = some (.int .i64 x) := B6.out.cs.c7
  have c8 : x6.cell? ⟨bx, 8, none⟩ = some (.int .i64 d) := N6.out.cs.c8
  have d8 : x6.cell? ⟨bz, 8, none⟩ = some (.int .i64 d) := B6.out.cs.c8
  have c9 : x6.cell? ⟨bx, 9, none⟩ = some (.int .i64 3600) := N6.out.cs.c9
  have dd9 : x6.cell? ⟨bz, 9, none⟩ = some (.int .i64 3600) := B6.out.cs.c9
  have c10 : x6.cell? ⟨bx, 10, none⟩ = some (.int .i64 0) := N6.out.cs.c10
  have d10 : x6.cell? ⟨bz, 10, none⟩ = some (.int .i64 0) := B6.out.cs.c10
  have c11 : x6.cell? ⟨bx, 11, none⟩ = some (.int .i64 m) := N6.out.cs.c11
  have d11 : x6.cell? ⟨bz, 11, none⟩ = some (.int .i64 m) := B6.out.cs.c11
  have c12 : x6.cell? ⟨bx, 12, none⟩ = some (.int .i64 x) := N6.out.cs.c12
  have d12 : x6.cell? ⟨bz, 12, none⟩ = some (.int .i64 x) := B6.out.cs.c12
  have c13 : x6.cell? ⟨bx, 13, none⟩ = some (.int .i64 d) := N6.out.cs.c13
  have d13 : x6.cell? ⟨bz, 13, none⟩ = some (.int .i64 d) := B6.out.cs.c13
  have c14 : x6.cell? ⟨bx, 14, none⟩ = some (.int .i64 3600) := N6.out.cs.c14
  have d14 : x6.cell? ⟨bz, 14, none⟩ = some (.int .i64 3600) := B6.out.cs.c14
  go_wp2
  go_ret
  exact ⟨ret_bool (by simp), K6.out⟩
set_option maxRecDepth 100000 in
set_option maxHeartbeats 4000000 in
theorem rules_1u (m x d a : Int) (w : World) (h : mayR ⟨1, m, x, d, a⟩ = true) (htab : Tab w) :
    Calls Tryd.prog 8 #[ruV ⟨1, m, x, d, a⟩, .bool true] w fun e w' => e = .returned (.bool true) ∧ Kept w w' := by
  have hv := h
  simp only [mayR, decide_eq_true_eq] at hv
  have MR := Lib.hid (mayR_at (b := 7200) h (by omega) (by omega))
  have MY := Lib.hid (may_R MR.out)
  have RX := Lib.hid (show rr ⟨1, m, x, d, 7200⟩ = (dec d ++ []) by simp [rr, rtK, rtA])
  have TX := Lib.hid (show wt (zR 1 m x d 7200) = [83, 84, 68, 48, 68, 83, 84, 44] ++ (dec d ++ []) ++ [44] ++ (dec d ++ []) by rw [wt_R, RX.out])
  have WL := Lib.hid (show ([83, 84, 68, 48, 68, 83, 84, 44] ++ (dec d ++ []) ++ [44] ++ (dec d ++ [])).length ≤ 100 by rw [← TX.out]; exact wt_len MY.out)
  have PR := Lib.hid (show prs ([83, 84, 68, 48, 68, 83, 84, 44] ++ (dec d ++ []) ++ [44] ++ (dec d ++ [])) = some (zR 1 m x d 7200) by rw [← TX.out]; exact prs_wt MY.out)
  have H := Lib.hid h
  have HT := Lib.hid htab; clear htab
  have d0 : 0 ≤ d := by omega
  have d9 : d ≤ 365 := by omega
  have l1 : (dec d).length ≤ 3 := dec_len3 (by omega)
  clear h hv
  have hE : ∀ W, (binOp .eql 25 (.agg #[.string ⟨#[83, 84, 68]⟩, .int .i64 0, .bool true, .string ⟨#[68, 83, 84]⟩, .int .i64 3600, .int .i64 1, .int .i64 m, .int .i64 x, .int .i64 d, .int .i64 7200, .int .i64 1, .int .i64 m, .int .i64 x, .int .i64 d, .int .i64 7200]) (.agg #[.string ⟨#[83, 84, 68]⟩, .int .i64 0, .bool true, .string ⟨#[68, 83, 84]⟩, .int .i64 3600, .int .i64 1, .int .i64 m, .int .i64 x, .int .i64 d, .int .i64 7200, .int .i64 1, .int .i64 m, .int .i64 x, .int .i64 d, .int .i64 7200])).run Tryd.prog W = .ok (.bool true) W := fun W => (eql_zone (zR 1 m x d 7200) (zR 1 m x d 7200) W).trans (by rw [zoE_refl])
  have KW := Lib.hid ((Kept.refl w).alloc (.cells (ru5 1 m x d a) 23))
  have B0 := Lib.hid (new_block w (.cells (ru5 1 m x d a) 23))
  have LT := Lib.hid (show w.heap.size < (w.alloc (.cells (ru5 1 m x d a) 23)).heap.size by simp)
  go_enter Tryd.func8, Tryd.ntmps8
  go_upto_region 1 with (fail)
  generalize w.alloc (.cells (ru5 1 m x d a) 23) = x0w at *
  go_wp2_with fail
  refine (awake_yes _ (KW.out.tab' HT.out)).mono ?_
  rintro e w1 ⟨rfl, k1⟩
  have B1 := Lib.hid ((k1.block _ LT.out).trans B0.out)
  have L1 := Lib.hid (Nat.lt_of_lt_of_le LT.out k1.size)
  have c0 := cell_of (j := 0) B1.out rfl
  have c1 := cell_of (j := 1) B1.out rfl
  have c2 := cell_of (j := 2) B1.out rfl
  have c3 := cell_of (j := 3) B1.out rfl
  have c4 := cell_of (j := 4) B1.out rfl
  have K1 := Lib.hid (KW.out.trans k1)
  clear k1 KW B0 LT
  go_wp2_with fail
  refine (rRule_any ⟨1, m, x, d, a⟩ _).mono ?_
  rintro e w2 ⟨rfl, k2⟩
  rw [H.out]
  clear c0 c1 c2 c3 c4
  have B2 := Lib.hid ((k2.block _ L1.out).trans B1.out)
  have K2 := Lib.hid (K1.out.trans k2)
  clear k2 K1 B1 L1
  have c4 := cell_of (j := 4) B2.out rfl
  have f4 := fro_of B2.out
  have B3 := Lib.hid (mk_set B2.out 7200)
  have K3 := Lib.hid (K2.out.setCell (a := ⟨w.heap.size, 4, none⟩) (Nat.le_refl _) (.int .i64 7200))
  go_upto_region 10 with (fail)
  clear c4 f4 B2 K2
  generalize w2.setCell ⟨w.heap.size, 4, none⟩ (.int .i64 7200) = x3 at *
  have c0 := cell_of (j := 0) B3.out rfl
  have c1 := cell_of (j := 1) B3.out rfl
  have c2 := cell_of (j := 2) B3.out rfl
  have c3 := cell_of (j := 3) B3.out rfl
  have c4 := cell_of (j := 4) B3.out rfl
  go_wp2_with fail
  refine (rNumber_any _ _ (by omega) (by omega)).mono ?_
  rintro e wq ⟨rfl, rfl⟩
  go_upto_region 17 with (fail)
  have N4 := Lib.hid (bz_new x3 (zR 1 m x d 7200))
  have K4 := Lib.hid (K3.out.alloc (.cells #[.string ⟨#[83, 84, 68]⟩, .int .i64 0, .bool true, .string ⟨#[68, 83, 84]⟩, .int .i64 3600, .int .i64 1, .int .i64 m, .int .i64 x, .int .i64 d, .int .i64 7200, .int .i64 1, .int .i64 m, .int .i64 x, .int .i64 d, .int .i64 7200] 25))
  clear c0 c1 c2 c3 c4
  generalize x3.alloc (.cells #[.string ⟨#[83, 84, 68]⟩, .int .i64 0, .bool true, .string ⟨#[68, 83, 84]⟩, .int .i64 3600, .int .i64 1, .int .i64 m, .int .i64 x, .int .i64 d, .int .i64 7200, .int .i64 1, .int .i64 m, .int .i64 x, .int .i64 d, .int .i64 7200] 25) = x5 at *
  generalize x3.heap.size = bz at *
  go_wp2_with (refine wpList_load_row rfl 25 _ rfl bz rfl 25 _ (0, 0) _ N4.out Tryd.underlying25 rfl (by kernel_rfl) ?_)
  refine (write_yes (zR 1 m x d 7200) _ MY.out (K4.out.tab' HT.out)).mono ?_
  rintro e w5 ⟨rfl, k5⟩
  rw [TX.out]
  have K5 := Lib.hid (K4.out.trans k5)
  have B5 := Lib.hid (N4.out.kept k5)
  clear k5 K4 N4
  go_wp2_with fail
  rw [show (ByteArray.mk #[83, 84, 68, 48, 68, 83, 84, 44] ++ ByteArray.mk (dec d).toArray ++ ByteArray.mk #[] ++ ByteArray.mk #[44] ++ ByteArray.mk (dec d).toArray ++ ByteArray.mk #[]) = ⟨([83, 84, 68, 48, 68, 83, 84, 44] ++ (dec d ++ []) ++ [44] ++ (dec d ++ [])).toArray⟩ by apply ByteArray.ext; simp [ByteArray.data_append]]
  refine (parse_any _ _ WL.out (K5.out.tab' HT.out)).mono ?_
  intro e w6 hp6
  rw [PR.out] at hp6
  obtain ⟨rfl, k6⟩ := hp6
  have N6 := Lib.hid (bz_new w6 (zR 1 m x d 7200))
  have K6 := Lib.hid ((K5.out.trans k6).alloc (.cells #[.string ⟨#[83, 84, 68]⟩, .int .i64 0, .bool true, .string ⟨#[68, 83, 84]⟩, .int .i64 3600, .int .i64 1, .int .i64 m, .int .i64 x, .int .i64 d, .int .i64 7200, .int .i64 1, .int .i64 m, .int .i64 x, .int .i64 d, .int .i64 7200] 25))
  have B6 := Lib.hid ((B5.out.kept k6).kept ((Kept.refl w6).alloc (.cells #[.string ⟨#[83, 84, 68]⟩, .int .i64 0, .bool true, .string ⟨#[68, 83, 84]⟩, .int .i64 3600, .int .i64 1, .int .i64 m, .int .i64 x, .int .i64 d, .int .i64 7200, .int .i64 1, .int .i64 m, .int .i64 x, .int .i64 d, .int .i64 7200] 25)))
  clear k6 K5 B5
  go_upto_region 19 with (fail)
  generalize w6.alloc (.cells #[.string ⟨#[83, 84, 68]⟩, .int .i64 0, .bool true, .string ⟨#[68, 83, 84]⟩, .int .i64 3600, .int .i64 1, .int .i64 m, .int .i64 x, .int .i64 d, .int .i64 7200, .int .i64 1, .int .i64 m, .int .i64 x, .int .i64 d, .int .i64 7200] 25) = x6 at *
  generalize w6.heap.size = bx at *
  have c0 : x6.cell? ⟨bx, 0, none⟩ = some (.string ⟨#[83, 84, 68]⟩) := N6.out.cs.c0
  have dd0 : x6.cell? ⟨bz, 0, none⟩ = some (.string ⟨#[83, 84, 68]⟩) := B6.out.cs.c0
  have c1 : x6.cell? ⟨bx, 1, none⟩ = some (.int .i64 0) := N6.out.cs.c1
  have d1 : x6.cell? ⟨bz, 1, none⟩ = some (.int .i64 0) := B6.out.cs.c1
  have c2 : x6.cell? ⟨bx, 2, none⟩ = some (.bool true) := N6.out.cs.c2
  have d2 : x6.cell? ⟨bz, 2, none⟩ = some (.bool true) := B6.out.cs.c2
  have c3 : x6.cell? ⟨bx, 3, none⟩ = some (.string ⟨#[68, 83, 84]⟩) := N6.out.cs.c3
  have d3 : x6.cell? ⟨bz, 3, none⟩ = some (.string ⟨#[68, 83, 84]⟩) := B6.out.cs.c3
  have c4 : x6.cell? ⟨bx, 4, none⟩ = some (.int .i64 3600) := N6.out.cs.c4
  have d4 : x6.cell? ⟨bz, 4, none⟩ = some (.int .i64 3600) := B6.out.cs.c4
  have c5 : x6.cell? ⟨bx, 5, none⟩ = some (.int .i64 1) := N6.out.cs.c5
  have d5 : x6.cell? ⟨bz, 5, none⟩ = some (.int .i64 1) := B6.out.cs.c5
  have c6 : x6.cell? ⟨bx, 6, none⟩ = some (.int .i64 m) := N6.out.cs.c6
  have dd6 : x6.cell? ⟨bz, 6, none⟩ = some (.int .i64 m) := B6.out.cs.c6
  have c7 : x6.cell? ⟨bx, 7, none⟩ = some (.int .i64 x) := N6.out.cs.c7
  have d7 : x6.cell? ⟨bz, 7, none⟩ = some (.int .i64 x) := B6.out.cs.c7
  have c8 : x6.cell? ⟨bx, 8, none⟩ = some (.int .i64 d) := N6.out.cs.c8
  have d8 : x6.cell? ⟨bz, 8, none⟩ = some (.int .i64 d) := B6.out.cs.c8
  have c9 : x6.cell? ⟨bx, 9, none⟩ = some (.int .i64 7200) := N6.out.cs.c9
  have dd9 : x6.cell? ⟨bz, 9, none⟩ = some (.int .i64 7200) := B6.out.cs.c9
  have c10 : x6.cell? ⟨bx, 10, none⟩ = some (.int .i64 1) := N6.out.cs.c10
  have d10 : x6.cell? ⟨bz, 10, none⟩ = some (.int .i64 1) := B6.out.cs.c10
  have c11 : x6.cell? ⟨bx, 11, none⟩ = some (.int .i64 m) := N6.out.cs.c11
  have d11 : x6.cell? ⟨bz, 11, none⟩ = some (.int .i64 m) := B6.out.cs.c11
  have c12 : x6.cell? ⟨bx, 12, none⟩ = some (.int .i64 x) := N6.out.cs.c12
  have d12 : x6.cell? ⟨bz, 12, none⟩ = some (.int .i64 x) := B6.out.cs.c12
  have c13 : x6.cell? ⟨bx, 13, none⟩ = some (.int .i64 d) := N6.out.cs.c13
  have d13 : x6.cell? ⟨bz, 13, none⟩ = some (.int .i64 d) := B6.out.cs.c13
  have c14 : x6.cell? ⟨bx, 14, none⟩ = some (.int .i64 7200) := N6.out.cs.c14
  have d14 : x6.cell? ⟨bz, 14, none⟩ = some (.int .i64 7200) := B6.out.cs.c14
  go_wp2
  go_ret
  exact ⟨ret_bool (by simp), K6.out⟩
set_option maxRecDepth 100000 in
set_option maxHeartbeats 4000000 in
theorem rules_1a (m x d a : Int) (w : World) (h : mayR ⟨1, m, x, d, a⟩ = true) (htab : Tab w) :
    Calls Tryd.prog 8 #[ruV ⟨1, m, x, d, a⟩, .bool false] w fun e w' => e = .returned (.bool true) ∧ Kept w w' := by
  have hv := h
  simp only [mayR, decide_eq_true_eq] at hv
  have MR := Lib.hid (mayR_at (b := 3600) h (by omega) (by omega))
  have MY := Lib.hid (may_R MR.out)
  have RX := Lib.hid (show rr ⟨1, m, x, d, 3600⟩ = (dec d ++ [47, 49]) by simp [rr, rtK, rtA, tt_1])
  have TX := Lib.hid (show wt (zR 1 m x d 3600) = [83, 84, 68, 48, 68, 83, 84, 44] ++ (dec d ++ [47, 49]) ++ [44] ++ (dec d ++ [47, 49]) by rw [wt_R, RX.out])
  have WL := Lib.hid (show ([83, 84, 68, 48, 68, 83, 84, 44] ++ (dec d ++ [47, 49]) ++ [44] ++ (dec d ++ [47, 49])).length ≤ 100 by rw [← TX.out]; exact wt_len MY.out)
  have PR := Lib.hid (show prs ([83, 84, 68, 48, 68, 83, 84, 44] ++ (dec d ++ [47, 49]) ++ [44] ++ (dec d ++ [47, 49])) = some (zR 1 m x d 3600) by rw [← TX.out]; exact prs_wt MY.out)
  have H := Lib.hid h
  have HT := Lib.hid htab; clear htab
  have d0 : 0 ≤ d := by omega
  have d9 : d ≤ 365 := by omega
  have l1 : (dec d).length ≤ 3 := dec_len3 (by omega)
  clear h hv
  have hE : ∀ W, (binOp .eql 25 (.agg #[.string ⟨#[83, 84, 68]⟩, .int .i64 0, .bool true, .string ⟨#[68, 83, 84]⟩, .int .i64 3600, .int .i64 1, .int .i64 m, .int .i64 x, .int .i64 d, .int .i64 3600, .int .i64 1, .int .i64 m, .int .i64 x, .int .i64 d, .int .i64 3600]) (.agg #[.string ⟨#[83, 84, 68]⟩, .int .i64 0, .bool true, .string ⟨#[68, 83, 84]⟩, .int .i64 3600, .int .i64 1, .int .i64 m, .int .i64 x, .int .i64 d, .int .i64 3600, .int .i64 1, .int .i64 m, .int .i64 x, .int .i64 d, .int .i64 3600])).run Tryd.prog W = .ok (.bool true) W := fun W => (eql_zone (zR 1 m x d 3600) (zR 1 m x d 3600) W).trans (by rw [zoE_refl])
  have KW := Lib.hid ((Kept.refl w).alloc (.cells (ru5 1 m x d a) 23))
  have B0 := Lib.hid (new_block w (.cells (ru5 1 m x d a) 23))
  have LT := Lib.hid (show w.heap.size < (w.alloc (.cells (ru5 1 m x d a) 23)).heap.size by simp)
  go_enter Tryd.func8, Tryd.ntmps8
  go_upto_region 1 with (fail)
  generalize w.alloc (.cells (ru5 1 m x d a) 23) = x0w at *
  go_wp2_with fail
  refine (awake_yes _ (KW.out.tab' HT.out)).mono ?_
  rintro e w1 ⟨rfl, k1⟩
  have B1 := Lib.hid ((k1.block _ LT.out).trans B0.out)
  have L1 := Lib.hid (Nat.lt_of_lt_of_le LT.out k1.size)
  have c0 := cell_of (j := 0) B1.out rfl
  have c1 := cell_of (j := 1) B1.out rfl
  have c2 := cell_of (j := 2) B1.out rfl
  have c3 := cell_of (j := 3) B1.out rfl
  have c4 := cell_of (j := 4) B1.out rfl
  have K1 := Lib.hid (KW.out.trans k1)
  clear k1 KW B0 LT
  go_wp2_with fail
  refine (rRule_any ⟨1, m, x, d, a⟩ _).mono ?_
  rintro e w2 ⟨rfl, k2⟩
  rw [H.out]
  clear c0 c1 c2 c3 c4
  have B2 := Lib.hid ((k2.block _ L1.out).trans B1.out)
  have K2 := Lib.hid (K1.out.trans k2)
  clear k2 K1 B1 L1
  have c4 := cell_of (j := 4) B2.out rfl
  have f4 := fro_of B2.out
  have B3 := Lib.hid (mk_set (mk_set B2.out 7200) 3600)
  have K3 := Lib.hid ((K2.out.setCell (a := ⟨w.heap.size, 4, none⟩) (Nat.le_refl _) (.int .i64 7200)).setCell (a := ⟨w.heap.size, 4, none⟩) (Nat.le_refl _) (.int .i64 3600))
  go_upto_region 10 with (fail)
  clear c4 f4 B2 K2
  generalize (w2.setCell ⟨w.heap.size, 4, none⟩ (.int .i64 7200)).setCell ⟨w.heap.size, 4, none⟩ (.int .i64 3600) = x3 at *
  have c0 := cell_of (j := 0) B3.out rfl
  have c1 := cell_of (j := 1) B3.out rfl
  have c2 := cell_of (j := 2) B3.out rfl
  have c3 := cell_of (j := 3) B3.out rfl
  have c4 := cell_of (j := 4) B3.out rfl
  go_wp2_with fail
  refine (rNumber_any _ _ (by omega) (by omega)).mono ?_
  rintro e wq ⟨rfl, rfl⟩
  go_upto_region 17 with (fail)
  have N4 := Lib.hid (bz_new x3 (zR 1 m x d 3600))
  have K4 := Lib.hid (K3.out.alloc (.cells #[.string ⟨#[83, 84, 68]⟩, .int .i64 0, .bool true, .string ⟨#[68, 83, 84]⟩, .int .i64 3600, .int .i64 1, .int .i64 m, .int .i64 x, .int .i64 d, .int .i64 3600, .int .i64 1, .int .i64 m, .int .i64 x, .int .i64 d, .int .i64 3600] 25))
  clear c0 c1 c2 c3 c4
  generalize x3.alloc (.cells #[.string ⟨#[83, 84, 68]⟩, .int .i64 0, .bool true, .string ⟨#[68, 83, 84]⟩, .int .i64 3600, .int .i64 1, .int .i64 m, .int .i64 x, .int .i64 d, .int .i64 3600, .int .i64 1, .int .i64 m, .int .i64 x, .int .i64 d, .int .i64 3600] 25) = x5 at *
  generalize x3.heap.size = bz at *
  go_wp2_with (refine wpList_load_row rfl 25 _ rfl bz rfl 25 _ (0, 0) _ N4.out Tryd.underlying25 rfl (by kernel_rfl) ?_)
  refine (write_yes (zR 1 m x d 3600) _ MY.out (K4.out.tab' HT.out)).mono ?_
  rintro e w5 ⟨rfl, k5⟩
  rw [TX.out]
  have K5 := Lib.hid (K4.out.trans k5)
  have B5 := Lib.hid (N4.out.kept k5)
  clear k5 K4 N4
  go_wp2_with fail
  rw [show (ByteArray.mk #[83, 84, 68, 48, 68, 83, 84, 44] ++ ByteArray.mk (dec d).toArray ++ ByteArray.mk #[47, 49] ++ ByteArray.mk #[44] ++ ByteArray.mk (dec d).toArray ++ ByteArray.mk #[47, 49]) = ⟨([83, 84, 68, 48, 68, 83, 84, 44] ++ (dec d ++ [47, 49]) ++ [44] ++ (dec d ++ [47, 49])).toArray⟩ by apply ByteArray.ext; simp [ByteArray.data_append]]
  refine (parse_any _ _ WL.out (K5.out.tab' HT.out)).mono ?_
  intro e w6 hp6
  rw [PR.out] at hp6
  obtain ⟨rfl, k6⟩ := hp6
  have N6 := Lib.hid (bz_new w6 (zR 1 m x d 3600))
  have K6 := Lib.hid ((K5.out.trans k6).alloc (.cells #[.string ⟨#[83, 84, 68]⟩, .int .i64 0, .bool true, .string ⟨#[68, 83, 84]⟩, .int .i64 3600, .int .i64 1, .int .i64 m, .int .i64 x, .int .i64 d, .int .i64 3600, .int .i64 1, .int .i64 m, .int .i64 x, .int .i64 d, .int .i64 3600] 25))
  have B6 := Lib.hid ((B5.out.kept k6).kept ((Kept.refl w6).alloc (.cells #[.string ⟨#[83, 84, 68]⟩, .int .i64 0, .bool true, .string ⟨#[68, 83, 84]⟩, .int .i64 3600, .int .i64 1, .int .i64 m, .int .i64 x, .int .i64 d, .int .i64 3600, .int .i64 1, .int .i64 m, .int .i64 x, .int .i64 d, .int .i64 3600] 25)))
  clear k6 K5 B5
  go_upto_region 19 with (fail)
  generalize w6.alloc (.cells #[.string ⟨#[83, 84, 68]⟩, .int .i64 0, .bool true, .string ⟨#[68, 83, 84]⟩, .int .i64 3600, .int .i64 1, .int .i64 m, .int .i64 x, .int .i64 d, .int .i64 3600, .int .i64 1, .int .i64 m, .int .i64 x, .int .i64 d, .int .i64 3600] 25) = x6 at *
  generalize w6.heap.size = bx at *
  have c0 : x6.cell? ⟨bx, 0, none⟩ = some (.string ⟨#[83, 84, 68]⟩) := N6.out.cs.c0
  have dd0 : x6.cell? ⟨bz, 0, none⟩ = some (.string ⟨#[83, 84, 68]⟩) := B6.out.cs.c0
  have c1 : x6.cell? ⟨bx, 1, none⟩ = some (.int .i64 0) := N6.out.cs.c1
  have d1 : x6.cell? ⟨bz, 1, none⟩ = some (.int .i64 0) := B6.out.cs.c1
  have c2 : x6.cell? ⟨bx, 2, none⟩ = some (.bool true) := N6.out.cs.c2
  have d2 : x6.cell? ⟨bz, 2, none⟩ = some (.bool true) := B6.out.cs.c2
  have c3 : x6.cell? ⟨bx, 3, none⟩ = some (.string ⟨#[68, 83, 84]⟩) := N6.out.cs.c3
  have d3 : x6.cell? ⟨bz, 3, none⟩ = some (.string ⟨#[68, 83, 84]⟩) := B6.out.cs.c3
  have c4 : x6.cell? ⟨bx, 4, none⟩ = some (.int .i64 3600) := N6.out.cs.c4
  have d4 : x6.cell? ⟨bz, 4, none⟩ = some (.int .i64 3600) := B6.out.cs.c4
  have c5 : x6.cell? ⟨bx, 5, none⟩ = some (.int .i64 1) := N6.out.cs.c5
  have d5 : x6.cell? ⟨bz, 5, none⟩ = some (.int .i64 1) := B6.out.cs.c5
  have c6 : x6.cell? ⟨bx, 6, none⟩ = some (.int .i64 m) := N6.out.cs.c6
  have dd6 : x6.cell? ⟨bz, 6, none⟩ = some (.int .i64 m) := B6.out.cs.c6
  have c7 : x6.cell? ⟨bx, 7, none⟩ = some (.int .i64 x) := N6.out.cs.c7
  have d7 : x6.cell? ⟨bz, 7, none⟩ = some (.int .i64 x) := B6.out.cs.c7
  have c8 : x6.cell? ⟨bx, 8, none⟩ = some (.int .i64 d) := N6.out.cs.c8
  have d8 : x6.cell? ⟨bz, 8, none⟩ = some (.int .i64 d) := B6.out.cs.c8
  have c9 : x6.cell? ⟨bx, 9, none⟩ = some (.int .i64 3600) := N6.out.cs.c9
  have dd9 : x6.cell? ⟨bz, 9, none⟩ = some (.int .i64 3600) := B6.out.cs.c9
  have c10 : x6.cell? ⟨bx, 10, none⟩ = some (.int .i64 1) := N6.out.cs.c10
  have d10 : x6.cell? ⟨bz, 10, none⟩ = some (.int .i64 1) := B6.out.cs.c10
  have c11 : x6.cell? ⟨bx, 11, none⟩ = some (.int .i64 m) := N6.out.cs.c11
  have d11 : x6.cell? ⟨bz, 11, none⟩ = some (.int .i64 m) := B6.out.cs.c11
  have c12 : x6.cell? ⟨bx, 12, none⟩ = some (.int .i64 x) := N6.out.cs.c12
  have d12 : x6.cell? ⟨bz, 12, none⟩ = some (.int .i64 x) := B6.out.cs.c12
  have c13 : x6.cell? ⟨bx, 13, none⟩ = some (.int .i64 d) := N6.out.cs.c13
  have d13 : x6.cell? ⟨bz, 13, none⟩ = some (.int .i64 d) := B6.out.cs.c13
  have c14 : x6.cell? ⟨bx, 14, none⟩ = some (.int .i64 3600) := N6.out.cs.c14
  have d14 : x6.cell? ⟨bz, 14, none⟩ = some (.int .i64 3600) := B6.out.cs.c14
  go_wp2
  go_ret
  exact ⟨ret_bool (by simp), K6.out⟩
set_option maxRecDepth 100000 in
set_option maxHeartbeats 4000000 in
theorem rules_2u (m x d a : Int) (w : World) (h : mayR ⟨2, m, x, d, a⟩ = true) (m2 : m < 10) (htab : Tab w) :
    Calls Tryd.prog 8 #[ruV ⟨2, m, x, d, a⟩, .bool true] w fun e w' => e = .returned (.bool true) ∧ Kept w w' := by
  have hv := h
  simp only [mayR, decide_eq_true_eq] at hv
  have MR := Lib.hid (mayR_at (b := 7200) h (by omega) (by omega))
  have MY := Lib.hid (may_R MR.out)
  have RX := Lib.hid (show rr ⟨2, m, x, d, 7200⟩ = ((77 :: (dec m ++ 46 :: (dec x ++ [46]))) ++ dec d ++ []) by simp [rr, rtK, rtA])
  have TX := Lib.hid (show wt (zR 2 m x d 7200) = [83, 84, 68, 48, 68, 83, 84, 44] ++ ((77 :: (dec m ++ 46 :: (dec x ++ [46]))) ++ dec d ++ []) ++ [44] ++ ((77 :: (dec m ++ 46 :: (dec x ++ [46]))) ++ dec d ++ []) by rw [wt_R, RX.out])
  have WL := Lib.hid (show ([83, 84, 68, 48, 68, 83, 84, 44] ++ ((77 :: (dec m ++ 46 :: (dec x ++ [46]))) ++ dec d ++ []) ++ [44] ++ ((77 :: (dec m ++ 46 :: (dec x ++ [46]))) ++ dec d ++ [])).length ≤ 100 by rw [← TX.out]; exact wt_len MY.out)
  have PR := Lib.hid (show prs ([83, 84, 68, 48, 68, 83, 84, 44] ++ ((77 :: (dec m ++ 46 :: (dec x ++ [46]))) ++ dec d ++ []) ++ [44] ++ ((77 :: (dec m ++ 46 :: (dec x ++ [46]))) ++ dec d ++ [])) = some (zR 2 m x d 7200) by rw [← TX.out]; exact prs_wt MY.out)
  have H := Lib.hid h
  have HT := Lib.hid htab; clear htab
  have d0 : 0 ≤ d := by omega
  have d9 : d ≤ 365 := by omega
  have m0 : 0 ≤ m := by omega
  have m9 : m ≤ 12 := by omega
  have x0 : 0 ≤ x := by omega
  have x9 : x ≤ 5 := by omega
  have d6 : d ≤ 6 := by omega
  have l1 : (dec d).length = 1 := dec_len1 (by omega) (by omega)
  have l3 : (dec m).length = 1 := dec_len1 (by omega) (by omega)
  have l4 : (dec x).length = 1 := dec_len1 (by omega) (by omega)
  clear h hv
  have hE : ∀ W, (binOp .eql 25 (.agg #[.string ⟨#[83, 84, 68]⟩, .int .i64 0, .bool true, .string ⟨#[68, 83, 84]⟩, .int .i64 3600, .int .i64 2, .int .i64 m, .int .i64 x, .int .i64 d, .int .i64 7200, .int .i64 2, .int .i64 m, .int .i64 x, .int .i64 d, .int .i64 7200]) (.agg #[.string ⟨#[83, 84, 68]⟩, .int .i64 0, .bool true, .string ⟨#[68, 83, 84]⟩, .int .i64 3600, .int .i64 2, .int .i64 m, .int .i64 x, .int .i64 d, .int .i64 7200, .int .i64 2, .int .i64 m, .int .i64 x, .int .i64 d, .int .i64 7200])).run Tryd.prog W = .ok (.bool true) W := fun W => (eql_zone (zR 2 m x d 7200) (zR 2 m x d 7200) W).trans (by rw [zoE_refl])
  have KW := Lib.hid ((Kept.refl w).alloc (.cells (ru5 2 m x d a) 23))
  have B0 := Lib.hid (new_block w (.cells (ru5 2 m x d a) 23))
  have LT := Lib.hid (show w.heap.size < (w.alloc (.cells (ru5 2 m x d a) 23)).heap.size by simp)
  go_enter Tryd.func8, Tryd.ntmps8
  go_upto_region 1 with (fail)
  generalize w.alloc (.cells (ru5 2 m x d a) 23) = x0w at *
  go_wp2_with fail
  refine (awake_yes _ (KW.out.tab' HT.out)).mono ?_
  rintro e w1 ⟨rfl, k1⟩
  have B1 := Lib.hid ((k1.block _ LT.out).trans B0.out)
  have L1 := Lib.hid (Nat.lt_of_lt_of_le LT.out k1.size)
  have c0 := cell_of (j := 0) B1.out rfl
  have c1 := cell_of (j := 1) B1.out rfl
  have c2 := cell_of (j := 2) B1.out rfl
  have c3 := cell_of (j := 3) B1.out rfl
  have c4 := cell_of (j := 4) B1.out rfl
  have K1 := Lib.hid (KW.out.trans k1)
  clear k1 KW B0 LT
  go_wp2_with fail
  refine (rRule_any ⟨2, m, x, d, a⟩ _).mono ?_
  rintro e w2 ⟨rfl, k2⟩
  rw [H.out]
  clear c0 c1 c2 c3 c4
  have B2 := Lib.hid ((k2.block _ L1.out).trans B1.out)
  have K2 := Lib.hid (K1.out.trans k2)
  clear k2 K1 B1 L1
  have c4 := cell_of (j := 4) B2.out rfl
  have f4 := fro_of B2.out
  have B3 := Lib.hid (mk_set B2.out 7200)
  have K3 := Lib.hid (K2.out.setCell (a := ⟨w.heap.size, 4, none⟩) (Nat.le_refl _) (.int .i64 7200))
  go_upto_region 10 with (fail)
  clear c4 f4 B2 K2
  generalize w2.setCell ⟨w.heap.size, 4, none⟩ (.int .i64 7200) = x3 at *
  have c0 := cell_of (j := 0) B3.out rfl
  have c1 := cell_of (j := 1) B3.out rfl
  have c2 := cell_of (j := 2) B3.out rfl
  have c3 := cell_of (j := 3) B3.out rfl
  have c4 := cell_of (j := 4) B3.out rfl
  go_wp2_with fail
  refine (rNumber_any _ _ (by omega) (by omega)).mono ?_
  rintro e wq ⟨rfl, rfl⟩
  go_wp2_with fail
  go_region_held3 (fun y => Kept w y ∧ y.cell? ⟨w.heap.size, 1, none⟩ = some (.int .i64 m) ∧ y.cell? ⟨w.heap.size, 2, none⟩ = some (.int .i64 x)) (first | exact ⟨K3.out.drew, c1, c2⟩ | assumption)
    (first | (go_at_call 16; refine (rNumber_any _ _ (by omega) (by omega)).mono ?_; rintro e w' ⟨rfl, rfl⟩))
  have KD := Lib.hid K3.out.drew
  have BD := Lib.hid (show x3.drew.heap[w.heap.size]? = _ from B3.out)
  clear c0 c1 c2 c3 c4
  generalize x3.drew = x4 at *
  have c0 := cell_of (j := 0) BD.out rfl
  have c1 := cell_of (j := 1) BD.out rfl
  have c2 := cell_of (j := 2) BD.out rfl
  have c3 := cell_of (j := 3) BD.out rfl
  have c4 := cell_of (j := 4) BD.out rfl
  go_upto_region 17 with (fail)
  have N4 := Lib.hid (bz_new x4 (zR 2 m x d 7200))
  have K4 := Lib.hid (KD.out.alloc (.cells #[.string ⟨#[83, 84, 68]⟩, .int .i64 0, .bool true, .string ⟨#[68, 83, 84]⟩, .int .i64 3600, .int .i64 2, .int .i64 m, .int .i64 x, .int .i64 d, .int .i64 7200, .int .i64 2, .int .i64 m, .int .i64 x, .int .i64 d, .int .i64 7200] 25))
  clear c0 c1 c2 c3 c4
  generalize x4.alloc (.cells #[.string ⟨#[83, 84, 68]⟩, .int .i64 0, .bool true, .string ⟨#[68, 83, 84]⟩, .int .i64 3600, .int .i64 2, .int .i64 m, .int .i64 x, .int .i64 d, .int .i64 7200, .int .i64 2, .int .i64 m, .int .i64 x, .int .i64 d, .int .i64 7200] 25) = x5 at *
  generalize x4.heap.size = bz at *
  go_wp2_with (refine wpList_load_row rfl 25 _ rfl bz rfl 25 _ (0, 0) _ N4.out Tryd.underlying25 rfl (by kernel_rfl) ?_)
  refine (write_yes (zR 2 m x d 7200) _ MY.out (K4.out.tab' HT.out)).mono ?_
  rintro e w5 ⟨rfl, k5⟩
  rw [TX.out]
  have K5 := Lib.hid (K4.out.trans k5)
  have B5 := Lib.hid (N4.out.kept k5)
  clear k5 K4 N4
  go_wp2_with fail
  rw [show (ByteArray.mk #[83, 84, 68, 48, 68, 83, 84, 44] ++ (ByteArray.mk #[77] ++ ByteArray.mk (dec m).toArray ++ ByteArray.mk #[46] ++ ByteArray.mk (dec x).toArray ++ ByteArray.mk #[46] ++ ByteArray.mk (dec d).toArray) ++ ByteArray.mk #[] ++ ByteArray.mk #[44] ++ (ByteArray.mk #[77] ++ ByteArray.mk (dec m).toArray ++ ByteArray.mk #[46] ++ ByteArray.mk (dec x).toArray ++ ByteArray.mk #[46] ++ ByteArray.mk (dec d).toArray) ++ ByteArray.mk #[]) = ⟨([83, 84, 68, 48, 68, 83, 84, 44] ++ ((77 :: (dec m ++ 46 :: (dec x ++ [46]))) ++ dec d ++ []) ++ [44] ++ ((77 :: (dec m ++ 46 :: (dec x ++ [46]))) ++ dec d ++ [])).toArray⟩ by apply ByteArray.ext; simp [ByteArray.data_append]]
  refine (parse_any _ _ WL.out (K5.out.tab' HT.out)).mono ?_
  intro e w6 hp6
  rw [PR.out] at hp6
  obtain ⟨rfl, k6⟩ := hp6
  have N6 := Lib.hid (bz_new w6 (zR 2 m x d 7200))
  have K6 := Lib.hid ((K5.out.trans k6).alloc (.cells #[.string ⟨#[83, 84, 68]⟩, .int .i64 0, .bool true, .string ⟨#[68, 83, 84]⟩, .int .i64 3600, .int .i64 2, .int .i64 m, .int .i64 x, .int .i64 d, .int .i64 7200, .int .i64 2, .int .i64 m, .int .i64 x, .int .i64 d, .int .i64 7200] 25))
  have B6 := Lib.hid ((B5.out.kept k6).kept ((Kept.refl w6).alloc (.cells #[.string ⟨#[83, 84, 68]⟩, .int .i64 0, .bool true, .string ⟨#[68, 83, 84]⟩, .int .i64 3600, .int .i64 2, .int .i64 m, .int .i64 x, .int .i64 d, .int .i64 7200, .int .i64 2, .int .i64 m, .int .i64 x, .int .i64 d, .int .i64 7200] 25)))
  clear k6 K5 B5
  go_upto_region 19 with (fail)
  generalize w6.alloc (.cells #[.string ⟨#[83, 84, 68]⟩, .int .i64 0, .bool true, .string ⟨#[68, 83, 84]⟩, .int .i64 3600, .int .i64 2, .int .i64 m, .int .i64 x, .int .i64 d, .int .i64 7200, .int .i64 2, .int .i64 m, .int .i64 x, .int .i64 d, .int .i64 7200] 25) = x6 at *
  generalize w6.heap.size = bx at *
  have c0 : x6.cell? ⟨bx, 0, none⟩ = some (.string ⟨#[83, 84, 68]⟩) := N6.out.cs.c0
  have dd0 : x6.cell? ⟨bz, 0, none⟩ = some (.string ⟨#[83, 84, 68]⟩) := B6.out.cs.c0
  have c1 : x6.cell? ⟨bx, 1, none⟩ = some (.int .i64 0) := N6.out.cs.c1
  have d1 : x6.cell? ⟨bz, 1, none⟩ = some (.int .i64 0) := B6.out.cs.c1
  have c2 : x6.cell? ⟨bx, 2, none⟩ = some (.bool true) := N6.out.cs.c2
  have d2 : x6.cell? ⟨bz, 2, none⟩ = some (.bool true) := B6.out.cs.c2
  have c3 : x6.cell? ⟨bx, 3, none⟩ = some (.string ⟨#[68, 83, 84]⟩) := N6.out.cs.c3
  have d3 : x6.cell? ⟨bz, 3, none⟩ = some (.string ⟨#[68, 83, 84]⟩) := B6.out.cs.c3
  have c4 : x6.cell? ⟨bx, 4, none⟩ = some (.int .i64 3600) := N6.out.cs.c4
  have d4 : x6.cell? ⟨bz, 4, none⟩ = some (.int .i64 3600) := B6.out.cs.c4
  have c5 : x6.cell? ⟨bx, 5, none⟩ = some (.int .i64 2) := N6.out.cs.c5
  have d5 : x6.cell? ⟨bz, 5, none⟩ = some (.int .i64 2) := B6.out.cs.c5
  have c6 : x6.cell? ⟨bx, 6, none⟩ = some (.int .i64 m) := N6.out.cs.c6
  have dd6 : x6.cell? ⟨bz, 6, none⟩ = some (.int .i64 m) := B6.out.cs.c6
  have c7 : x6.cell? ⟨bx, 7, none⟩ = some (.int .i64 x) := N6.out.cs.c7
  have d7 : x6.cell? ⟨bz, 7, none⟩ = some (.int .i64 x) := B6.out.cs.c7
  have c8 : x6.cell? ⟨bx, 8, none⟩ = some (.int .i64 d) := N6.out.cs.c8
  have d8 : x6.cell? ⟨bz, 8, none⟩ = some (.int .i64 d) := B6.out.cs.c8
  have c9 : x6.cell? ⟨bx, 9, none⟩ = some (.int .i64 7200) := N6.out.cs.c9
  have dd9 : x6.cell? ⟨bz, 9, none⟩ = some (.int .i64 7200) := B6.out.cs.c9
  have c10 : x6.cell? ⟨bx, 10, none⟩ = some (.int .i64 2) := N6.out.cs.c10
  have d10 : x6.cell? ⟨bz, 10, none⟩ = some (.int .i64 2) := B6.out.cs.c10
  have c11 : x6.cell? ⟨bx, 11, none⟩ = some (.int .i64 m) := N6.out.cs.c11
  have d11 : x6.cell? ⟨bz, 11, none⟩ = some (.int .i64 m) := B6.out.cs.c11
  have c12 : x6.cell? ⟨bx, 12, none⟩ = some (.int .i64 x) := N6.out.cs.c12
  have d12 : x6.cell? ⟨bz, 12, none⟩ = some (.int .i64 x) := B6.out.cs.c12
  have c13 : x6.cell? ⟨bx, 13, none⟩ = some (.int .i64 d) := N6.out.cs.c13
  have d13 : x6.cell? ⟨bz, 13, none⟩ = some (.int .i64 d) := B6.out.cs.c13
  have c14 : x6.cell? ⟨bx, 14, none⟩ = some (.int .i64 7200) := N6.out.cs.c14
  have d14 : x6.cell? ⟨bz, 14, none⟩ = some (.int .i64 7200) := B6.out.cs.c14
  go_wp2
  go_ret
  exact ⟨ret_bool (by simp), K6.out⟩
set_option maxRecDepth 100000 in
set_option maxHeartbeats 4000000 in
theorem rules_2a (m x d a : Int) (w : World) (h : mayR ⟨2, m, x, d, a⟩ = true) (m2 : m < 10) (htab : Tab w) :
    Calls Tryd.prog 8 #[ruV ⟨2, m, x, d, a⟩, .bool false] w fun e w' => e = .returned (.bool true) ∧ Kept w w' := by
  have hv := h
  simp only [mayR, decide_eq_true_eq] at hv
  have MR := Lib.hid (mayR_at (b := 3600) h (by omega) (by omega))
  have MY := Lib.hid (may_R MR.out)
  have RX := Lib.hid (show rr ⟨2, m, x, d, 3600⟩ = ((77 :: (dec m ++ 46 :: (dec x ++ [46]))) ++ dec d ++ [47, 49]) by simp [rr, rtK, rtA, tt_1])
  have TX := Lib.hid (show wt (zR 2 m x d 3600) = [83, 84, 68, 48, 68, 83, 84, 44] ++ ((77 :: (dec m ++ 46 :: (dec x ++ [46]))) ++ dec d ++ [47, 49]) ++ [44] ++ ((77 :: (dec m ++ 46 :: (dec x ++ [46]))) ++ dec d ++ [47, 49]) by rw [wt_R, RX.out])
  have WL := Lib.hid (show ([83, 84, 68, 48, 68, 83, 84, 44] ++ ((77 :: (dec m ++ 46 :: (dec x ++ [46]))) ++ dec d ++ [47, 49]) ++ [44] ++ ((77 :: (dec m ++ 46 :: (dec x ++ [46]))) ++ dec d ++ [47, 49])).length ≤ 100 by rw [← TX.out]; exact wt_len MY.out)
  have PR := Lib.hid (show prs ([83, 84, 68, 48, 68, 83, 84, 44] ++ ((77 :: (dec m ++ 46 :: (dec x ++ [46]))) ++ dec d ++ [47, 49]) ++ [44] ++ ((77 :: (dec m ++ 46 :: (dec x ++ [46]))) ++ dec d ++ [47, 49])) = some (zR 2 m x d 3600) by rw [← TX.out]; exact prs_wt MY.out)
  have H := Lib.hid h
  have HT := Lib.hid htab; clear htab
  have d0 : 0 ≤ d := by omega
  have d9 : d ≤ 365 := by omega
  have m0 : 0 ≤ m := by omega
  have m9 : m ≤ 12 := by omega
  have x0 : 0 ≤ x := by omega
  have x9 : x ≤ 5 := by omega
  have d6 : d ≤ 6 := by omega
  have l1 : (dec d).length = 1 := dec_len1 (by omega) (by omega)
  have l3 : (dec m).length = 1 := dec_len1 (by omega) (by omega)
  have l4 : (dec x).length = 1 := dec_len1 (by omega) (by omega)
  clear h hv
  have hE : ∀ W, (binOp .eql 25 (.agg #[.string ⟨#[83, 84, 68]⟩, .int .i64 0, .bool true, .string ⟨#[68, 83, 84]⟩, .int .i64 3600, .int .i64 2, .int .i64 m, .int .i64 x, .int .i64 d, .int .i64 3600, .int .i64 2, .int .i64 m, .int .i64 x, .int .i64 d, .int .i64 3600]) (.agg #[.string ⟨#[83, 84, 68]⟩, .int .i64 0, .bool true, .string ⟨#[68, 83, 84]⟩, .int .i64 3600, .int .i64 2, .int .i64 m, .int .i64 x, .int .i64 d, .int .i64 3600, .int .i64 2, .int .i64 m, .int .i64 x, .int .i64 d, .int .i64 3600])).run Tryd.prog W = .ok (.bool true) W := fun W => (eql_zone (zR 2 m x d 3600) (zR 2 m x d 3600) W).trans (by rw [zoE_refl])
  have KW := Lib.hid ((Kept.refl w).alloc (.cells (ru5 2 m x d a) 23))
  have B0 := Lib.hid (new_block w (.cells (ru5 2 m x d a) 23))
  have LT := Lib.hid (show w.heap.size < (w.alloc (.cells (ru5 2 m x d a) 23)).heap.size by simp)
  go_enter Tryd.func8, Tryd.ntmps8
  go_upto_region 1 with (fail)
  generalize w.alloc (.cells (ru5 2 m x d a) 23) = x0w at *
  go_wp2_with fail
  refine (awake_yes _ (KW.out.tab' HT.out)).mono ?_
  rintro e w1 ⟨rfl, k1⟩
  have B1 := Lib.hid ((k1.block _ LT.out).trans B0.out)
  have L1 := Lib.hid (Nat.lt_of_lt_of_le LT.out k1.size)
  have c0 := cell_of (j := 0) B1.out rfl
  have c1 := cell_of (j := 1) B1.out rfl
  have c2 := cell_of (j := 2) B1.out rfl
  have c3 := cell_of (j := 3) B1.out rfl
  have c4 := cell_of (j := 4) B1.out rfl
  have K1 := Lib.hid (KW.out.trans k1)
  clear k1 KW B0 LT
  go_wp2_with fail
  refine (rRule_any ⟨2, m, x, d, a⟩ _).mono ?_
  rintro e w2 ⟨rfl, k2⟩
  rw [H.out]
  clear c0 c1 c2 c3 c4
  have B2 := Lib.hid ((k2.block _ L1.out).trans B1.out)
  have K2 := Lib.hid (K1.out.trans k2)
  clear k2 K1 B1 L1
  have c4 := cell_of (j := 4) B2.out rfl
  have f4 := fro_of B2.out
  have B3 := Lib.hid (mk_set (mk_set B2.out 7200) 3600)
  have K3 := Lib.hid ((K2.out.setCell (a := ⟨w.heap.size, 4, none⟩) (Nat.le_refl _) (.int .i64 7200)).setCell (a := ⟨w.heap.size, 4, none⟩) (Nat.le_refl _) (.int .i64 3600))
  go_upto_region 10 with (fail)
  clear c4 f4 B2 K2
  generalize (w2.setCell ⟨w.heap.size, 4, none⟩ (.int .i64 7200)).setCell ⟨w.heap.size, 4, none⟩ (.int .i64 3600) = x3 at *
  have c0 := cell_of (j := 0) B3.out rfl
  have c1 := cell_of (j := 1) B3.out rfl
  have c2 := cell_of (j := 2) B3.out rfl
  have c3 := cell_of (j := 3) B3.out rfl
  have c4 := cell_of (j := 4) B3.out rfl
  go_wp2_with fail
  refine (rNumber_any _ _ (by omega) (by omega)).mono ?_
  rintro e wq ⟨rfl, rfl⟩
  go_wp2_with fail
  go_region_held3 (fun y => Kept w y ∧ y.cell? ⟨w.heap.size, 1, none⟩ = some (.int .i64 m) ∧ y.cell? ⟨w.heap.size, 2, none⟩ = some (.int .i64 x)) (first | exact ⟨K3.out.drew, c1, c2⟩ | assumption)
    (first | (go_at_call 16; refine (rNumber_any _ _ (by omega) (by omega)).mono ?_; rintro e w' ⟨rfl, rfl⟩))
  have KD := Lib.hid K3.out.drew
  have BD := Lib.hid (show x3.drew.heap[w.heap.size]? = _ from B3.out)
  clear c0 c1 c2 c3 c4
  generalize x3.drew = x4 at *
  have c0 := cell_of (j := 0) BD.out rfl
  have c1 := cell_of (j := 1) BD.out rfl
  have c2 := cell_of (j := 2) BD.out rfl
  have c3 := cell_of (j := 3) BD.out rfl
  have c4 := cell_of (j := 4) BD.out rfl
  go_upto_region 17 with (fail)
  have N4 := Lib.hid (bz_new x4 (zR 2 m x d 3600))
  have K4 := Lib.hid (KD.out.alloc (.cells #[.string ⟨#[83, 84, 68]⟩, .int .i64 0, .bool true, .string ⟨#[68, 83, 84]⟩, .int .i64 3600, .int .i64 2, .int .i64 m, .int .i64 x, .int .i64 d, .int .i64 3600, .int .i64 2, .int .i64 m, .int .i64 x, .int .i64 d, .int .i64 3600] 25))
  clear c0 c1 c2 c3 c4
  generalize x4.alloc (.cells #[.string ⟨#[83, 84, 68]⟩, .int .i64 0, .bool true, .string ⟨#[68, 83, 84]⟩, .int .i64 3600, .int .i64 2, .int .i64 m, .int .i64 x, .int .i64 d, .int .i64 3600, .int .i64 2, .int .i64 m, .int .i64 x, .int .i64 d, .int .i64 3600] 25) = x5 at *
  generalize x4.heap.size = bz at *
  go_wp2_with (refine wpList_load_row rfl 25 _ rfl bz rfl 25 _ (0, 0) _ N4.out Tryd.underlying25 rfl (by kernel_rfl) ?_)
  refine (write_yes (zR 2 m x d 3600) _ MY.out (K4.out.tab' HT.out)).mono ?_
  rintro e w5 ⟨rfl, k5⟩
  rw [TX.out]
  have K5 := Lib.hid (K4.out.trans k5)
  have B5 := Lib.hid (N4.out.kept k5)
  clear k5 K4 N4
  go_wp2_with fail
  rw [show (ByteArray.mk #[83, 84, 68, 48, 68, 83, 84, 44] ++ (ByteArray.mk #[77] ++ ByteArray.mk (dec m).toArray ++ ByteArray.mk #[46] ++ ByteArray.mk (dec x).toArray ++ ByteArray.mk #[46] ++ ByteArray.mk (dec d).toArray) ++ ByteArray.mk #[47, 49] ++ ByteArray.mk #[44] ++ (ByteArray.mk #[77] ++ ByteArray.mk (dec m).toArray ++ ByteArray.mk #[46] ++ ByteArray.mk (dec x).toArray ++ ByteArray.mk #[46] ++ ByteArray.mk (dec d).toArray) ++ ByteArray.mk #[47, 49]) = ⟨([83, 84, 68, 48, 68, 83, 84, 44] ++ ((77 :: (dec m ++ 46 :: (dec x ++ [46]))) ++ dec d ++ [47, 49]) ++ [44] ++ ((77 :: (dec m ++ 46 :: (dec x ++ [46]))) ++ dec d ++ [47, 49])).toArray⟩ by apply ByteArray.ext; simp [ByteArray.data_append]]
  refine (parse_any _ _ WL.out (K5.out.tab' HT.out)).mono ?_
  intro e w6 hp6
  rw [PR.out] at hp6
  obtain ⟨rfl, k6⟩ := hp6
  have N6 := Lib.hid (bz_new w6 (zR 2 m x d 3600))
  have K6 := Lib.hid ((K5.out.trans k6).alloc (.cells #[.string ⟨#[83, 84, 68]⟩, .int .i64 0, .bool true, .string ⟨#[68, 83, 84]⟩, .int .i64 3600, .int .i64 2, .int .i64 m, .int .i64 x, .int .i64 d, .int .i64 3600, .int .i64 2, .int .i64 m, .int .i64 x, .int .i64 d, .int .i64 3600] 25))
  have B6 := Lib.hid ((B5.out.kept k6).kept ((Kept.refl w6).alloc (.cells #[.string ⟨#[83, 84, 68]⟩, .int .i64 0, .bool true, .string ⟨#[68, 83, 84]⟩, .int .i64 3600, .int .i64 2, .int .i64 m, .int .i64 x, .int .i64 d, .int .i64 3600, .int .i64 2, .int .i64 m, .int .i64 x, .int .i64 d, .int .i64 3600] 25)))
  clear k6 K5 B5
  go_upto_region 19 with (fail)
  generalize w6.alloc (.cells #[.string ⟨#[83, 84, 68]⟩, .int .i64 0, .bool true, .string ⟨#[68, 83, 84]⟩, .int .i64 3600, .int .i64 2, .int .i64 m, .int .i64 x, .int .i64 d, .int .i64 3600, .int .i64 2, .int .i64 m, .int .i64 x, .int .i64 d, .int .i64 3600] 25) = x6 at *
  generalize w6.heap.size = bx at *
  have c0 : x6.cell? ⟨bx, 0, none⟩ = some (.string ⟨#[83, 84, 68]⟩) := N6.out.cs.c0
  have dd0 : x6.cell? ⟨bz, 0, none⟩ = some (.string ⟨#[83, 84, 68]⟩) := B6.out.cs.c0
  have c1 : x6.cell? ⟨bx, 1, none⟩ = some (.int .i64 0) := N6.out.cs.c1
  have d1 : x6.cell? ⟨bz, 1, none⟩ = some (.int .i64 0) := B6.out.cs.c1
  have c2 : x6.cell? ⟨bx, 2, none⟩ = some (.bool true) := N6.out.cs.c2
  have d2 : x6.cell? ⟨bz, 2, none⟩ = some (.bool true) := B6.out.cs.c2
  have c3 : x6.cell? ⟨bx, 3, none⟩ = some (.string ⟨#[68, 83, 84]⟩) := N6.out.cs.c3
  have d3 : x6.cell? ⟨bz, 3, none⟩ = some (.string ⟨#[68, 83, 84]⟩) := B6.out.cs.c3
  have c4 : x6.cell? ⟨bx, 4, none⟩ = some (.int .i64 3600) := N6.out.cs.c4
  have d4 : x6.cell? ⟨bz, 4, none⟩ = some (.int .i64 3600) := B6.out.cs.c4
  have c5 : x6.cell? ⟨bx, 5, none⟩ = some (.int .i64 2) := N6.out.cs.c5
  have d5 : x6.cell? ⟨bz, 5, none⟩ = some (.int .i64 2) := B6.out.cs.c5
  have c6 : x6.cell? ⟨bx, 6, none⟩ = some (.int .i64 m) := N6.out.cs.c6
  have dd6 : x6.cell? ⟨bz, 6, none⟩ = some (.int .i64 m) := B6.out.cs.c6
  have c7 : x6.cell? ⟨bx, 7, none⟩ = some (.int .i64 x) := N6.out.cs.c7
  have d7 : x6.cell? ⟨bz, 7, none⟩ = some (.int .i64 x) := B6.out.cs.c7
  have c8 : x6.cell? ⟨bx, 8, none⟩ = some (.int .i64 d) := N6.out.cs.c8
  have d8 : x6.cell? ⟨bz, 8, none⟩ = some (.int .i64 d) := B6.out.cs.c8
  have c9 : x6.cell? ⟨bx, 9, none⟩ = some (.int .i64 3600) := N6.out.cs.c9
  have dd9 : x6.cell? ⟨bz, 9, none⟩ = some (.int .i64 3600) := B6.out.cs.c9
  have c10 : x6.cell? ⟨bx, 10, none⟩ = some (.int .i64 2) := N6.out.cs.c10
  have d10 : x6.cell? ⟨bz, 10, none⟩ = some (.int .i64 2) := B6.out.cs.c10
  have c11 : x6.cell? ⟨bx, 11, none⟩ = some (.int .i64 m) := N6.out.cs.c11
  have d11 : x6.cell? ⟨bz, 11, none⟩ = some (.int .i64 m) := B6.out.cs.c11
  have c12 : x6.cell? ⟨bx, 12, none⟩ = some (.int .i64 x) := N6.out.cs.c12
  have d12 : x6.cell? ⟨bz, 12, none⟩ = some (.int .i64 x) := B6.out.cs.c12
  have c13 : x6.cell? ⟨bx, 13, none⟩ = some (.int .i64 d) := N6.out.cs.c13
  have d13 : x6.cell? ⟨bz, 13, none⟩ = some (.int .i64 d) := B6.out.cs.c13
  have c14 : x6.cell? ⟨bx, 14, none⟩ = some (.int .i64 3600) := N6.out.cs.c14
  have d14 : x6.cell? ⟨bz, 14, none⟩ = some (.int .i64 3600) := B6.out.cs.c14
  go_wp2
  go_ret
  exact ⟨ret_bool (by simp), K6.out⟩
set_option maxRecDepth 100000 in
set_option maxHeartbeats 4000000 in
theorem rules_3u (m x d a : Int) (w : World) (h : mayR ⟨2, m, x, d, a⟩ = true) (m2 : 10 ≤ m) (htab : Tab w) :
    Calls Tryd.prog 8 #[ruV ⟨2, m, x, d, a⟩, .bool true] w fun e w' => e = .returned (.bool true) ∧ Kept w w' := by
  have hv := h
  simp only [mayR, decide_eq_true_eq] at hv
  have MR := Lib.hid (mayR_at (b := 7200) h (by omega) (by omega))
  have MY := Lib.hid (may_R MR.out)
  have RX := Lib.hid (show rr ⟨2, m, x, d, 7200⟩ = ((77 :: (dec m ++ 46 :: (dec x ++ [46]))) ++ dec d ++ []) by simp [rr, rtK, rtA])
  have TX := Lib.hid (show wt (zR 2 m x d 7200) = [83, 84, 68, 48, 68, 83, 84, 44] ++ ((77 :: (dec m ++ 46 :: (dec x ++ [46]))) ++ dec d ++ []) ++ [44] ++ ((77 :: (dec m ++ 46 :: (dec x ++ [46]))) ++ dec d ++ []) by rw [wt_R, RX.out])
  have WL := Lib.hid (show ([83, 84, 68, 48, 68, 83, 84, 44] ++ ((77 :: (dec m ++ 46 :: (dec x ++ [46]))) ++ dec d ++ []) ++ [44] ++ ((77 :: (dec m ++ 46 :: (dec x ++ [46]))) ++ dec d ++ [])).length ≤ 100 by rw [← TX.out]; exact wt_len MY.out)
  have PR := Lib.hid (show prs ([83, 84, 68, 48, 68, 83, 84, 44] ++ ((77 :: (dec m ++ 46 :: (dec x ++ [46]))) ++ dec d ++ []) ++ [44] ++ ((77 :: (dec m ++ 46 :: (dec x ++ [46]))) ++ dec d ++ [])) = some (zR 2 m x d 7200) by rw [← TX.out]; exact prs_wt MY.out)
  have H := Lib.hid h
  have HT := Lib.hid htab; clear htab
  have d0 : 0 ≤ d := by omega
  have d9 : d ≤ 365 := by omega
  have m0 : 0 ≤ m := by omega
  have m9 : m ≤ 12 := by omega
  have x0 : 0 ≤ x := by omega
  have x9 : x ≤ 5 := by omega
  have d6 : d ≤ 6 := by omega
  have l1 : (dec d).length = 1 := dec_len1 (by omega) (by omega)
  have l3 : (dec m).length = 2 := dec_len2 (by omega) (by omega)
  have l4 : (dec x).length = 1 := dec_len1 (by omega) (by omega)
  clear h hv
  have hE : ∀ W, (binOp .eql 25 (.agg #[.string ⟨#[83, 84, 68]⟩, .int .i64 0, .bool true, .string ⟨#[68, 83, 84]⟩, .int .i64 3600, .int .i64 2, .int .i64 m, .int .i64 x, .int .i64 d, .int .i64 7200, .int .i64 2, .int .i64 m, .int .i64 x, .int .i64 d, .int .i64 7200]) (.agg #[.string ⟨#[83, 84, 68]⟩, .int .i64 0, .bool true, .string ⟨#[68, 83, 84]⟩, .int .i64 3600, .int .i64 2, .int .i64 m, .int .i64 x, .int .i64 d, .int .i64 7200, .int .i64 2, .int .i64 m, .int .i64 x, .int .i64 d, .int .i64 7200])).run Tryd.prog W = .ok (.bool true) W := fun W => (eql_zone (zR 2 m x d 7200) (zR 2 m x d 7200) W).trans (by rw [zoE_refl])
  have KW := Lib.hid ((Kept.refl w).alloc (.cells (ru5 2 m x d a) 23))
  have B0 := Lib.hid (new_block w (.cells (ru5 2 m x d a) 23))
  have LT := Lib.hid (show w.heap.size < (w.alloc (.cells (ru5 2 m x d a) 23)).heap.size by simp)
  go_enter Tryd.func8, Tryd.ntmps8
  go_upto_region 1 with (fail)
  generalize w.alloc (.cells (ru5 2 m x d a) 23) = x0w at *
  go_wp2_with fail
  refine (awake_yes _ (KW.out.tab' HT.out)).mono ?_
  rintro e w1 ⟨rfl, k1⟩
  have B1 := Lib.hid ((k1.block _ LT.out).trans B0.out)
  have L1 := Lib.hid (Nat.lt_of_lt_of_le LT.out k1.size)
  have c0 := cell_of (j := 0) B1.out rfl
  have c1 := cell_of (j := 1) B1.out rfl
  have c2 := cell_of (j := 2) B1.out rfl
  have c3 := cell_of (j := 3) B1.out rfl
  have c4 := cell_of (j := 4) B1.out rfl
  have K1 := Lib.hid (KW.out.trans k1)
  clear k1 KW B0 LT
  go_wp2_with fail
  refine (rRule_any ⟨2, m, x, d, a⟩ _).mono ?_
  rintro e w2 ⟨rfl, k2⟩
  rw [H.out]
  clear c0 c1 c2 c3 c4
  have B2 := Lib.hid ((k2.block _ L1.out).trans B1.out)
  have K2 := Lib.hid (K1.out.trans k2)
  clear k2 K1 B1 L1
  have c4 := cell_of (j := 4) B2.out rfl
  have f4 := fro_of B2.out
  have B3 := Lib.hid (mk_set B2.out 7200)
  have K3 := Lib.hid (K2.out.setCell (a := ⟨w.heap.size, 4, none⟩) (Nat.le_refl _) (.int .i64 7200))
  go_upto_region 10 with (fail)
  clear c4 f4 B2 K2
  generalize w2.setCell ⟨w.heap.size, 4, none⟩ (.int .i64 7200) = x3 at *
  have c0 := cell_of (j := 0) B3.out rfl
  have c1 := cell_of (j := 1) B3.out rfl
  have c2 := cell_of (j := 2) B3.out rfl
  have c3 := cell_of (j := 3) B3.out rfl
  have c4 := cell_of (j := 4) B3.out rfl
  go_wp2_with fail
  refine (rNumber_any _ _ (by omega) (by omega)).mono ?_
  rintro e wq ⟨rfl, rfl⟩
  go_wp2_with fail
  go_region_held3 (fun y => Kept w y ∧ y.cell? ⟨w.heap.size, 1, none⟩ = some (.int .i64 m) ∧ y.cell? ⟨w.heap.size, 2, none⟩ = some (.int .i64 x)) (first | exact ⟨K3.out.drew, c1, c2⟩ | assumption)
    (first | (go_at_call 16; refine (rNumber_any _ _ (by omega) (by omega)).mono ?_; rintro e w' ⟨rfl, rfl⟩))
  have KD := Lib.hid K3.out.drew
  have BD := Lib.hid (show x3.drew.heap[w.heap.size]? = _ from B3.out)
  clear c0 c1 c2 c3 c4
  generalize x3.drew = x4 at *
  have c0 := cell_of (j := 0) BD.out rfl
  have c1 := cell_of (j := 1) BD.out rfl
  have c2 := cell_of (j := 2) BD.out rfl
  have c3 := cell_of (j := 3) BD.out rfl
  have c4 := cell_of (j := 4) BD.out rfl
  go_upto_region 17 with (fail)
  have N4 := Lib.hid (bz_new x4 (zR 2 m x d 7200))
  have K4 := Lib.hid (KD.out.alloc (.cells #[.string ⟨#[83, 84, 68]⟩, .int .i64 0, .bool true, .string ⟨#[68, 83, 84]⟩, .int .i64 3600, .int .i64 2, .int .i64 m, .int .i64 x, .int .i64 d, .int .i64 7200, .int .i64 2, .int .i64 m, .int .i64 x, .int .i64 d, .int .i64 7200] 25))
  clear c0 c1 c2 c3 c4
  generalize x4.alloc (.cells #[.string ⟨#[83, 84, 68]⟩, .int .i64 0, .bool true, .string ⟨#[68, 83, 84]⟩, .int .i64 3600, .int .i64 2, .int .i64 m, .int .i64 x, .int .i64 d, .int .i64 7200, .int .i64 2, .int .i64 m, .int .i64 x, .int .i64 d, .int .i64 7200] 25) = x5 at *
  generalize x4.heap.size = bz at *
  go_wp2_with (refine wpList_load_row rfl 25 _ rfl bz rfl 25 _ (0, 0) _ N4.out Tryd.underlying25 rfl (by kernel_rfl) ?_)
  refine (write_yes (zR 2 m x d 7200) _ MY.out (K4.out.tab' HT.out)).mono ?_
  rintro e w5 ⟨rfl, k5⟩
  rw [TX.out]
  have K5 := Lib.hid (K4.out.trans k5)
  have B5 := Lib.hid (N4.out.kept k5)
  clear k5 K4 N4
  go_wp2_with fail
  rw [show (ByteArray.mk #[83, 84, 68, 48, 68, 83, 84, 44] ++ (ByteArray.mk #[77] ++ ByteArray.mk (dec m).toArray ++ ByteArray.mk #[46] ++ ByteArray.mk (dec x).toArray ++ ByteArray.mk #[46] ++ ByteArray.mk (dec d).toArray) ++ ByteArray.mk #[] ++ ByteArray.mk #[44] ++ (ByteArray.mk #[77] ++ ByteArray.mk (dec m).toArray ++ ByteArray.mk #[46] ++ ByteArray.mk (dec x).toArray ++ ByteArray.mk #[46] ++ ByteArray.mk (dec d).toArray) ++ ByteArray.mk #[]) = ⟨([83, 84, 68, 48, 68, 83, 84, 44] ++ ((77 :: (dec m ++ 46 :: (dec x ++ [46]))) ++ dec d ++ []) ++ [44] ++ ((77 :: (dec m ++ 46 :: (dec x ++ [46]))) ++ dec d ++ [])).toArray⟩ by apply ByteArray.ext; simp [ByteArray.data_append]]
  refine (parse_any _ _ WL.out (K5.out.tab' HT.out)).mono ?_
  intro e w6 hp6
  rw [PR.out] at hp6
  obtain ⟨rfl, k6⟩ := hp6
  have N6 := Lib.hid (bz_new w6 (zR 2 m x d 7200))
  have K6 := Lib.hid ((K5.out.trans k6).alloc (.cells #[.string ⟨#[83, 84, 68]⟩, .int .i64 0, .bool true, .string ⟨#[68, 83, 84]⟩, .int .i64 3600, .int .i64 2, .int .i64 m, .int .i64 x, .int .i64 d, .int .i64 7200, .int .i64 2, .int .i64 m, .int .i64 x, .int .i64 d, .int .i64 7200] 25))
  have B6 := Lib.hid ((B5.out.kept k6).kept ((Kept.refl w6).alloc (.cells #[.string ⟨#[83, 84, 68]⟩, .int .i64 0, .bool true, .string ⟨#[68, 83, 84]⟩, .int .i64 3600, .int .i64 2, .int .i64 m, .int .i64 x, .int .i64 d, .int .i64 7200, .int .i64 2, .int .i64 m, .int .i64 x, .int .i64 d, .int .i64 7200] 25)))
  clear k6 K5 B5
  go_upto_region 19 with (fail)
  generalize w6.alloc (.cells #[.string ⟨#[83, 84, 68]⟩, .int .i64 0, .bool true, .string ⟨#[68, 83, 84]⟩, .int .i64 3600, .int .i64 2, .int .i64 m, .int .i64 x, .int .i64 d, .int .i64 7200, .int .i64 2, .int .i64 m, .int .i64 x, .int .i64 d, .int .i64 7200] 25) = x6 at *
  generalize w6.heap.size = bx at *
  have c0 : x6.cell? ⟨bx, 0, none⟩ = some (.string ⟨#[83, 84, 68]⟩) := N6.out.cs.c0
  have dd0 : x6.cell? ⟨bz, 0, none⟩ = some (.string ⟨#[83, 84, 68]⟩) := B6.out.cs.c0
  have c1 : x6.cell? ⟨bx, 1, none⟩ = some (.int .i64 0) := N6.out.cs.c1
  have d1 : x6.cell? ⟨bz, 1, none⟩ = some (.int .i64 0) := B6.out.cs.c1
  have c2 : x6.cell? ⟨bx, 2, none⟩ = some (.bool true) := N6.out.cs.c2
  have d2 : x6.cell? ⟨bz, 2, none⟩ = some (.bool true) := B6.out.cs.c2
  have c3 : x6.cell? ⟨bx, 3, none⟩ = some (.string ⟨#[68, 83, 84]⟩) := N6.out.cs.c3
  have d3 : x6.cell? ⟨bz, 3, none⟩ = some (.string ⟨#[68, 83, 84]⟩) := B6.out.cs.c3
  have c4 : x6.cell? ⟨bx, 4, none⟩ = some (.int .i64 3600) := N6.out.cs.c4
  have d4 : x6.cell? ⟨bz, 4, none⟩ = some (.int .i64 3600) := B6.out.cs.c4
  have c5 : x6.cell? ⟨bx, 5, none⟩ = some (.int .i64 2) := N6.out.cs.c5
  have d5 : x6.cell? ⟨bz, 5, none⟩ = some (.int .i64 2) := B6.out.cs.c5
  have c6 : x6.cell? ⟨bx, 6, none⟩ = some (.int .i64 m) := N6.out.cs.c6
  have dd6 : x6.cell? ⟨bz, 6, none⟩ = some (.int .i64 m) := B6.out.cs.c6
  have c7 : x6.cell? ⟨bx, 7, none⟩ = some (.int .i64 x) := N6.out.cs.c7
  have d7 : x6.cell? ⟨bz, 7, none⟩ = some (.int .i64 x) := B6.out.cs.c7
  have c8 : x6.cell? ⟨bx, 8, none⟩ = some (.int .i64 d) := N6.out.cs.c8
  have d8 : x6.cell? ⟨bz, 8, none⟩ = some (.int .i64 d) := B6.out.cs.c8
  have c9 : x6.cell? ⟨bx, 9, none⟩ = some (.int .i64 7200) := N6.out.cs.c9
  have dd9 : x6.cell? ⟨bz, 9, none⟩ = some (.int .i64 7200) := B6.out.cs.c9
  have c10 : x6.cell? ⟨bx, 10, none⟩ = some (.int .i64 2) := N6.out.cs.c10
  have d10 : x6.cell? ⟨bz, 10, none⟩ = some (.int .i64 2) := B6.out.cs.c10
  have c11 : x6.cell? ⟨bx, 11, none⟩ = some (.int .i64 m) := N6.out.cs.c11
  have d11 : x6.cell? ⟨bz, 11, none⟩ = some (.int .i64 m) := B6.out.cs.c11
  have c12 : x6.cell? ⟨bx, 12, none⟩ = some (.int .i64 x) := N6.out.cs.c12
  have d12 : x6.cell? ⟨bz, 12, none⟩ = some (.int .i64 x) := B6.out.cs.c12
  have c13 : x6.cell? ⟨bx, 13, none⟩ = some (.int .i64 d) := N6.out.cs.c13
  have d13 : x6.cell? ⟨bz, 13, none⟩ = some (.int .i64 d) := B6.out.cs.c13
  have c14 : x6.cell? ⟨bx, 14, none⟩ = some (.int .i64 7200) := N6.out.cs.c14
  have d14 : x6.cell? ⟨bz, 14, none⟩ = some (.int .i64 7200) := B6.out.cs.c14
  go_wp2
  go_ret
  exact ⟨ret_bool (by simp), K6.out⟩
set_option maxRecDepth 100000 in
set_option maxHeartbeats 4000000 in
theorem rules_3a (m x d a : Int) (w : World) (h : mayR ⟨2, m, x, d, a⟩ = true) (m2 : 10 ≤ m) (htab : Tab w) :
    Calls Tryd.prog 8 #[ruV ⟨2, m, x, d, a⟩, .bool false] w fun e w' => e = .returned (.bool true) ∧ Kept w w' := by
  have hv := h
  simp only [mayR, decide_eq_true_eq] at hv
  have MR := Lib.hid (mayR_at (b := 3600) h (by omega) (by omega))
  have MY := Lib.hid (may_R MR.out)
  have RX := Lib.hid (show rr ⟨2, m, x, d, 3600⟩ = ((77 :: (dec m ++ 46 :: (dec x ++ [46]))) ++ dec d ++ [47, 49]) by simp [rr, rtK, rtA, tt_1])
  have TX := Lib.hid (show wt (zR 2 m x d 3600) = [83, 84, 68, 48, 68, 83, 84, 44] ++ ((77 :: (dec m ++ 46 :: (dec x ++ [46]))) ++ dec d ++ [47, 49]) ++ [44] ++ ((77 :: (dec m ++ 46 :: (dec x ++ [46]))) ++ dec d ++ [47, 49]) by rw [wt_R, RX.out])
  have WL := Lib.hid (show ([83, 84, 68, 48, 68, 83, 84, 44] ++ ((77 :: (dec m ++ 46 :: (dec x ++ [46]))) ++ dec d ++ [47, 49]) ++ [44] ++ ((77 :: (dec m ++ 46 :: (dec x ++ [46]))) ++ dec d ++ [47, 49])).length ≤ 100 by rw [← TX.out]; exact wt_len MY.out)
  have PR := Lib.hid (show prs ([83, 84, 68, 48, 68, 83, 84, 44] ++ ((77 :: (dec m ++ 46 :: (dec x ++ [46]))) ++ dec d ++ [47, 49]) ++ [44] ++ ((77 :: (dec m ++ 46 :: (dec x ++ [46]))) ++ dec d ++ [47, 49])) = some (zR 2 m x d 3600) by rw [← TX.out]; exact prs_wt MY.out)
  have H := Lib.hid h
  have HT := Lib.hid htab; clear htab
  have d0 : 0 ≤ d := by omega
  have d9 : d ≤ 365 := by omega
  have m0 : 0 ≤ m := by omega
  have m9 : m ≤ 12 := by omega
  have x0 : 0 ≤ x := by omega
  have x9 : x ≤ 5 := by omega
  have d6 : d ≤ 6 := by omega
  have l1 : (dec d).length = 1 := dec_len1 (by omega) (by omega)
  have l3 : (dec m).length = 2 := dec_len2 (by omega) (by omega)
  have l4 : (dec x).length = 1 := dec_len1 (by omega) (by omega)
  clear h hv
  have hE : ∀ W, (binOp .eql 25 (.agg #[.string ⟨#[83, 84, 68]⟩, .int .i64 0, .bool true, .string ⟨#[68, 83, 84]⟩, .int .i64 3600, .int .i64 2, .int .i64 m, .int .i64 x, .int .i64 d, .int .i64 3600, .int .i64 2, .int .i64 m, .int .i64 x, .int .i64 d, .int .i64 3600]) (.agg #[.string ⟨#[83, 84, 68]⟩, .int .i64 0, .bool true, .string ⟨#[68, 83, 84]⟩, .int .i64 3600, .int .i64 2, .int .i64 m, .int .i64 x, .int .i64 d, .int .i64 3600, .int .i64 2, .int .i64 m, .int .i64 x, .int .i64 d, .int .i64 3600])).run Tryd.prog W = .ok (.bool true) W := fun W => (eql_zone (zR 2 m x d 3600) (zR 2 m x d 3600) W).trans (by rw [zoE_refl])
  have KW := Lib.hid ((Kept.refl w).alloc (.cells (ru5 2 m x d a) 23))
  have B0 := Lib.hid (new_block w (.cells (ru5 2 m x d a) 23))
  have LT := Lib.hid (show w.heap.size < (w.alloc (.cells (ru5 2 m x d a) 23)).heap.size by simp)
  go_enter Tryd.func8, Tryd.ntmps8
  go_upto_region 1 with (fail)
  generalize w.alloc (.cells (ru5 2 m x d a) 23) = x0w at *
  go_wp2_with fail
  refine (awake_yes _ (KW.out.tab' HT.out)).mono ?_
  rintro e w1 ⟨rfl, k1⟩
  have B1 := Lib.hid ((k1.block _ LT.out).trans B0.out)
  have L1 := Lib.hid (Nat.lt_of_lt_of_le LT.out k1.size)
  have c0 := cell_of (j := 0) B1.out rfl
  have c1 := cell_of (j := 1) B1.out rfl
  have c2 := cell_of (j := 2) B1.out rfl
  have c3 := cell_of (j := 3) B1.out rfl
  have c4 := cell_of (j := 4) B1.out rfl
  have K1 := Lib.hid (KW.out.trans k1)
  clear k1 KW B0 LT
  go_wp2_with fail
  refine (rRule_any ⟨2, m, x, d, a⟩ _).mono ?_
  rintro e w2 ⟨rfl, k2⟩
  rw [H.out]
  clear c0 c1 c2 c3 c4
  have B2 := Lib.hid ((k2.block _ L1.out).trans B1.out)
  have K2 := Lib.hid (K1.out.trans k2)
  clear k2 K1 B1 L1
  have c4 := cell_of (j := 4) B2.out rfl
  have f4 := fro_of B2.out
  have B3 := Lib.hid (mk_set (mk_set B2.out 7200) 3600)
  have K3 := Lib.hid ((K2.out.setCell (a := ⟨w.heap.size, 4, none⟩) (Nat.le_refl _) (.int .i64 7200)).setCell (a := ⟨w.heap.size, 4, none⟩) (Nat.le_refl _) (.int .i64 3600))
  go_upto_region 10 with (fail)
  clear c4 f4 B2 K2
  generalize (w2.setCell ⟨w.heap.size, 4, none⟩ (.int .i64 7200)).setCell ⟨w.heap.size, 4, none⟩ (.int .i64 3600) = x3 at *
  have c0 := cell_of (j := 0) B3.out rfl
  have c1 := cell_of (j := 1) B3.out rfl
  have c2 := cell_of (j := 2) B3.out rfl
  have c3 := cell_of (j := 3) B3.out rfl
  have c4 := cell_of (j := 4) B3.out rfl
  go_wp2_with fail
  refine (rNumber_any _ _ (by omega) (by omega)).mono ?_
  rintro e wq ⟨rfl, rfl⟩
  go_wp2_with fail
  go_region_held3 (fun y => Kept w y ∧ y.cell? ⟨w.heap.size, 1, none⟩ = some (.int .i64 m) ∧ y.cell? ⟨w.heap.size, 2, none⟩ = some (.int .i64 x)) (first | exact ⟨K3.out.drew, c1, c2⟩ | assumption)
    (first | (go_at_call 16; refine (rNumber_any _ _ (by omega) (by omega)).mono ?_; rintro e w' ⟨rfl, rfl⟩))
  have KD := Lib.hid K3.out.drew
  have BD := Lib.hid (show x3.drew.heap[w.heap.size]? = _ from B3.out)
  clear c0 c1 c2 c3 c4
  generalize x3.drew = x4 at *
  have c0 := cell_of (j := 0) BD.out rfl
  have c1 := cell_of (j := 1) BD.out rfl
  have c2 := cell_of (j := 2) BD.out rfl
  have c3 := cell_of (j := 3) BD.out rfl
  have c4 := cell_of (j := 4) BD.out rfl
  go_upto_region 17 with (fail)
  have N4 := Lib.hid (bz_new x4 (zR 2 m x d 3600))
  have K4 := Lib.hid (KD.out.alloc (.cells #[.string ⟨#[83, 84, 68]⟩, .int .i64 0, .bool true, .string ⟨#[68, 83, 84]⟩, .int .i64 3600, .int .i64 2, .int .i64 m, .int .i64 x, .int .i64 d, .int .i64 3600, .int .i64 2, .int .i64 m, .int .i64 x, .int .i64 d, .int .i64 3600] 25))
  clear c0 c1 c2 c3 c4
  generalize x4.alloc (.cells #[.string ⟨#[83, 84, 68]⟩, .int .i64 0, .bool true, .string ⟨#[68, 83, 84]⟩, .int .i64 3600, .int .i64 2, .int .i64 m, .int .i64 x, .int .i64 d, .int .i64 3600, .int .i64 2, .int .i64 m, .int .i64 x, .int .i64 d, .int .i64 3600] 25) = x5 at *
  generalize x4.heap.size = bz at *
  go_wp2_with (refine wpList_load_row rfl 25 _ rfl bz rfl 25 _ (0, 0) _ N4.out Tryd.underlying25 rfl (by kernel_rfl) ?_)
  refine (write_yes (zR 2 m x d 3600) _ MY.out (K4.out.tab' HT.out)).mono ?_
  rintro e w5 ⟨rfl, k5⟩
  rw [TX.out]
  have K5 := Lib.hid (K4.out.trans k5)
  have B5 := Lib.hid (N4.out.kept k5)
  clear k5 K4 N4
  go_wp2_with fail
  rw [show (ByteArray.mk #[83, 84, 68, 48, 68, 83, 84, 44] ++ (ByteArray.mk #[77] ++ ByteArray.mk (dec m).toArray ++ ByteArray.mk #[46] ++ ByteArray.mk (dec x).toArray ++ ByteArray.mk #[46] ++ ByteArray.mk (dec d).toArray) ++ ByteArray.mk #[47, 49] ++ ByteArray.mk #[44] ++ (ByteArray.mk #[77] ++ ByteArray.mk (dec m).toArray ++ ByteArray.mk #[46] ++ ByteArray.mk (dec x).toArray ++ ByteArray.mk #[46] ++ ByteArray.mk (dec d).toArray) ++ ByteArray.mk #[47, 49]) = ⟨([83, 84, 68, 48, 68, 83, 84, 44] ++ ((77 :: (dec m ++ 46 :: (dec x ++ [46]))) ++ dec d ++ [47, 49]) ++ [44] ++ ((77 :: (dec m ++ 46 :: (dec x ++ [46]))) ++ dec d ++ [47, 49])).toArray⟩ by apply ByteArray.ext; simp [ByteArray.data_append]]
  refine (parse_any _ _ WL.out (K5.out.tab' HT.out)).mono ?_
  intro e w6 hp6
  rw [PR.out] at hp6
  obtain ⟨rfl, k6⟩ := hp6
  have N6 := Lib.hid (bz_new w6 (zR 2 m x d 3600))
  have K6 := Lib.hid ((K5.out.trans k6).alloc (.cells #[.string ⟨#[83, 84, 68]⟩, .int .i64 0, .bool true, .string ⟨#[68, 83, 84]⟩, .int .i64 3600, .int .i64 2, .int .i64 m, .int .i64 x, .int .i64 d, .int .i64 3600, .int .i64 2, .int .i64 m, .int .i64 x, .int .i64 d, .int .i64 3600] 25))
  have B6 := Lib.hid ((B5.out.kept k6).kept ((Kept.refl w6).alloc (.cells #[.string ⟨#[83, 84, 68]⟩, .int .i64 0, .bool true, .string ⟨#[68, 83, 84]⟩, .int .i64 3600, .int .i64 2, .int .i64 m, .int .i64 x, .int .i64 d, .int .i64 3600, .int .i64 2, .int .i64 m, .int .i64 x, .int .i64 d, .int .i64 3600] 25)))
  clear k6 K5 B5
  go_upto_region 19 with (fail)
  generalize w6.alloc (.cells #[.string ⟨#[83, 84, 68]⟩, .int .i64 0, .bool true, .string ⟨#[68, 83, 84]⟩, .int .i64 3600, .int .i64 2, .int .i64 m, .int .i64 x, .int .i64 d, .int .i64 3600, .int .i64 2, .int .i64 m, .int .i64 x, .int .i64 d, .int .i64 3600] 25) = x6 at *
  generalize w6.heap.size = bx at *
  have c0 : x6.cell? ⟨bx, 0, none⟩ = some (.string ⟨#[83, 84, 68]⟩) := N6.out.cs.c0
  have dd0 : x6.cell? ⟨bz, 0, none⟩ = some (.string ⟨#[83, 84, 68]⟩) := B6.out.cs.c0
  have c1 : x6.cell? ⟨bx, 1, none⟩ = some (.int .i64 0) := N6.out.cs.c1
  have d1 : x6.cell? ⟨bz, 1, none⟩ = some (.int .i64 0) := B6.out.cs.c1
  have c2 : x6.cell? ⟨bx, 2, none⟩ = some (.bool true) := N6.out.cs.c2
  have d2 : x6.cell? ⟨bz, 2, none⟩ = some (.bool true) := B6.out.cs.c2
  have c3 : x6.cell? ⟨bx, 3, none⟩ = some (.string ⟨#[68, 83, 84]⟩) := N6.out.cs.c3
  have d3 : x6.cell? ⟨bz, 3, none⟩ = some (.string ⟨#[68, 83, 84]⟩) := B6.out.cs.c3
  have c4 : x6.cell? ⟨bx, 4, none⟩ = some (.int .i64 3600) := N6.out.cs.c4
  have d4 : x6.cell? ⟨bz, 4, none⟩ = some (.int .i64 3600) := B6.out.cs.c4
  have c5 : x6.cell? ⟨bx, 5, none⟩ = some (.int .i64 2) := N6.out.cs.c5
  have d5 : x6.cell? ⟨bz, 5, none⟩ = some (.int .i64 2) := B6.out.cs.c5
  have c6 : x6.cell? ⟨bx, 6, none⟩ = some (.int .i64 m) := N6.out.cs.c6
  have dd6 : x6.cell? ⟨bz, 6, none⟩ = some (.int .i64 m) := B6.out.cs.c6
  have c7 : x6.cell? ⟨bx, 7, none⟩ = some (.int .i64 x) := N6.out.cs.c7
  have d7 : x6.cell? ⟨bz, 7, none⟩ = some (.int .i64 x) := B6.out.cs.c7
  have c8 : x6.cell? ⟨bx, 8, none⟩ = some (.int .i64 d) := N6.out.cs.c8
  have d8 : x6.cell? ⟨bz, 8, none⟩ = some (.int .i64 d) := B6.out.cs.c8
  have c9 : x6.cell? ⟨bx, 9, none⟩ = some (.int .i64 3600) := N6.out.cs.c9
  have dd9 : x6.cell? ⟨bz, 9, none⟩ = some (.int .i64 3600) := B6.out.cs.c9
  have c10 : x6.cell? ⟨bx, 10, none⟩ = some (.int .i64 2) := N6.out.cs.c10
  have d10 : x6.cell? ⟨bz, 10, none⟩ = some (.int .i64 2) := B6.out.cs.c10
  have c11 : x6.cell? ⟨bx, 11, none⟩ = some (.int .i64 m) := N6.out.cs.c11
  have d11 : x6.cell? ⟨bz, 11, none⟩ = some (.int .i64 m) := B6.out.cs.c11
  have c12 : x6.cell? ⟨bx, 12, none⟩ = some (.int .i64 x) := N6.out.cs.c12
  have d12 : x6.cell? ⟨bz, 12, none⟩ = some (.int .i64 x) := B6.out.cs.c12
  have c13 : x6.cell? ⟨bx, 13, none⟩ = some (.int .i64 d) := N6.out.cs.c13
  have d13 : x6.cell? ⟨bz, 13, none⟩ = some (.int .i64 d) := B6.out.cs.c13
  have c14 : x6.cell? ⟨bx, 14, none⟩ = some (.int .i64 3600) := N6.out.cs.c14
  have d14 : x6.cell? ⟨bz, 14, none⟩ = some (.int .i64 3600) := B6.out.cs.c14
  go_wp2
  go_ret
  exact ⟨ret_bool (by simp), K6.out⟩
theorem walkRules (r : Ru) (b : Bool) (w : World) (htab : Tab w) :
    Calls Tryd.prog 8 #[ruV r, .bool b] w fun e w' => e = .returned (.bool true) ∧ Kept w w' := by
  obtain ⟨k, m, x, d, a⟩ := r
  cases h : mayR ⟨k, m, x, d, a⟩ with
  | false => exact rules_not _ b w h htab
  | true =>
    have hv := h
    simp only [mayR, decide_eq_true_eq] at hv
    rcases (show k = 0 ∨ k = 1 ∨ k = 2 by omega) with rfl | rfl | rfl
    · cases b with
      | true => exact rules_0u m x d a w h htab
      | false => exact rules_0a m x d a w h htab
    · cases b with
      | true => exact rules_1u m x d a w h htab
      | false => exact rules_1a m x d a w h htab
    · by_cases hm : m < 10
      · cases b with
        | true => exact rules_2u m x d a w h hm htab
        | false => exact rules_2a m x d a w h hm htab
      · cases b with
        | true => exact rules_3u m x d a w h (by omega) htab
        | false => exact rules_3a m x d a w h (by omega) htab
end Go.Proofs.YtomnjdammfiadaaDoor
