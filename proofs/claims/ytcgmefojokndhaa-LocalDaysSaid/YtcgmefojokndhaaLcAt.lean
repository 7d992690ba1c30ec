/- Contracts of package local: Off and At. -/
import Derived.Test.YtcgmefojokndhaaLcOff
namespace Go.Proofs.Ytcgmefojokndhaa
open Go.ChangeShapes Go.WideShapes Go.ChangeAt Go.RowKit
open Civ Zn Lc
set_option maxRecDepth 100000 in
set_option maxHeartbeats 2000000 in
theorem offAt_any (z : Zo) (t : Int) (w : World) (hz : mayZ z = true) (ht : scB t = true) :
    Calls Try.prog 42 #[zoV z, .int .i64 t] w fun e w' => e = .returned (.int .i64 (offP z t)) ∧ Kept w w' := by
  by_cases hh : z.has = true
  · exact offAt_has z t w hz ht hh
  · have HH := Lib.hid (show z.has = false by simpa using hh)
    have HO := Lib.hid (show offP z t = z.off by unfold offP offY; rw [if_neg hh])
    clear hz ht hh
    have B0 := Lib.hid (bz_new w z)
    have K0 := Lib.hid ((Kept.refl w).alloc (.cells (zo15 z.std z.off z.has z.dst z.ahead z.fr.k z.fr.m z.fr.w z.fr.d z.fr.a z.to.k z.to.m z.to.w z.to.d z.to.a) 25))
    go_enter Try.func42, Try.ntmps42
    go_upto_region 1 with (fail)
    generalize w.alloc (.cells (zo15 z.std z.off z.has z.dst z.ahead z.fr.k z.fr.m z.fr.w z.fr.d z.fr.a z.to.k z.to.m z.to.w z.to.d z.to.a) 25) = x at *
    have k1 := (Kept.refl x).alloc (.cells #[.int .i64 t] 3)
    generalize x.alloc (.cells #[.int .i64 t] 3) = y at *
    have B1 := Lib.hid (B0.out.kept k1)
    have K1 := Lib.hid (K0.out.trans k1)
    clear B0 K0 k1
    have c2 := B1.out.cs.c2
    rw [HH.out] at c2
    have c1 := B1.out.cs.c1
    go_wp2
    go_ret
    exact ⟨by rw [HO.out]; rfl, K1.out⟩
set_option maxRecDepth 100000 in
set_option maxHeartbeats 2000000 in
theorem off_yes (z : Zo) (t : Int) (w : World) (hz : mayZ z = true) (ht : scB t = true) :
    Calls Try.prog 15 #[zoV z, .int .i64 t] w fun e w' => e = .returned (.tuple #[.int .i64 (offP z t), .int .i64 0]) ∧ Kept w w' := by
  have HZ := Lib.hid hz; have HT := Lib.hid ht; clear hz ht
  have B0 := Lib.hid (bz_new w z)
  have K0 := Lib.hid ((Kept.refl w).alloc (.cells (zo15 z.std z.off z.has z.dst z.ahead z.fr.k z.fr.m z.fr.w z.fr.d z.fr.a z.to.k z.to.m z.to.w z.to.d z.to.a) 25))
  go_enter Try.func15, Try.ntmps15
  go_upto_region 1 with (fail)
  generalize w.alloc (.cells (zo15 z.std z.off z.has z.dst z.ahead z.fr.k z.fr.m z.fr.w z.fr.d z.fr.a z.to.k z.to.m z.to.w z.to.d z.to.a) 25) = x at *
  go_wp2_with (refine wpList_load_row rfl 25 _ rfl w.heap.size rfl 25 _ (0, 0) _ B0.out Try.underlying25 rfl (by kernel_rfl) ?_)
  refine (zMay_any z _).mono ?_
  rintro e w1 ⟨rfl, k1⟩
  rw [HZ.out]
  have B1 := Lib.hid (B0.out.kept k1)
  have K1 := Lib.hid (K0.out.trans k1)
  clear B0 K0 k1
  go_wp2_with fail
  refine (isSecond_any t _).mono ?_
  rintro e w2 ⟨rfl, rfl⟩
  rw [HT.out]
  go_wp2_with (refine wpList_load_row rfl 25 _ rfl w.heap.size rfl 25 _ (0, 0) _ B1.out Try.underlying25 rfl (by kernel_rfl) ?_)
  refine (offAt_any z t _ HZ.out HT.out).mono ?_
  rintro e w2 ⟨rfl, k2⟩
  go_wp2
  go_ret2
  exact ⟨rfl, K1.out.trans k2⟩
set_option maxRecDepth 100000 in
set_option maxHeartbeats 2000000 in
theorem off_not (z : Zo) (t : Int) (w : World) (h : (mayZ z && scB t) = false) :
    Calls Try.prog 15 #[zoV z, .int .i64 t] w fun e w' => e = .returned (.tuple #[.int .i64 0, .int .i64 1]) ∧ Kept w w' := by
  have HN := Lib.hid h; clear h
  have B0 := Lib.hid (bz_new w z)
  have K0 := Lib.hid ((Kept.refl w).alloc (.cells (zo15 z.std z.off z.has z.dst z.ahead z.fr.k z.fr.m z.fr.w z.fr.d z.fr.a z.to.k z.to.m z.to.w z.to.d z.to.a) 25))
  go_enter Try.func15, Try.ntmps15
  go_upto_region 1 with (fail)
  generalize w.alloc (.cells (zo15 z.std z.off z.has z.dst z.ahead z.fr.k z.fr.m z.fr.w z.fr.d z.fr.a z.to.k z.to.m z.to.w z.to.d z.to.a) 25) = x at *
  go_wp2_with (refine wpList_load_row rfl 25 _ rfl w.heap.size rfl 25 _ (0, 0) _ B0.out Try.underlying25 rfl (by kernel_rfl) ?_)
  refine (zMay_any z _).mono ?_
  rintro e w1 ⟨rfl, k1⟩
  have K1 := Lib.hid (K0.out.trans k1)
  clear B0 K0 k1
  cases hz : mayZ z with
  | false =>
    clear hz
    go_wp2
    go_ret2
    exact ⟨rfl, K1.out⟩
  | true =>
    have ht : scB t = false := by have := HN.out; rw [hz] at this; simpa using this
    have HT := Lib.hid ht; clear hz ht
    go_wp2_with fail
    refine (isSecond_any t _).mono ?_
    rintro e w2 ⟨rfl, rfl⟩
    rw [HT.out]
    go_wp2
    go_ret2
    exact ⟨rfl, K1.out⟩
theorem offP_bd {z : Zo} (hz : mayZ z = true) (t : Int) : -89999 ≤ offP z t ∧ offP z t ≤ 93599 := by
  have o := may_off hz
  unfold offP offY
  split
  · rename_i hh
    have := may_T hz hh
    split <;> omega
  · omega
set_option maxRecDepth 100000 in
set_option maxHeartbeats 2000000 in
theorem lat_yes (z : Zo) (t : Int) (w : World) (hz : mayZ z = true) (ht : scB t = true) (hc : inCal (t + offP z t)) :
    Calls Try.prog 17 #[zoV z, .int .i64 t] w (AtPost (t + offP z t) w) := by
  have HZ := Lib.hid hz; have HT := Lib.hid ht; have HC := Lib.hid hc
  have ob := offP_bd hz t
  have tb : 0 ≤ t ∧ t ≤ 253402300799 := by simpa [scB] using ht
  clear hz ht hc
  have B0 := Lib.hid (bz_new w z)
  have K0 := Lib.hid ((Kept.refl w).alloc (.cells (zo15 z.std z.off z.has z.dst z.ahead z.fr.k z.fr.m z.fr.w z.fr.d z.fr.a z.to.k z.to.m z.to.w z.to.d z.to.a) 25))
  go_enter Try.func17, Try.ntmps17
  go_upto_region 1 with (fail)
  generalize hx : w.alloc (.cells (zo15 z.std z.off z.has z.dst z.ahead z.fr.k z.fr.m z.fr.w z.fr.d z.fr.a z.to.k z.to.m z.to.w z.to.d z.to.a) 25) = x at *
  have s1 : x.heap.size = w.heap.size + 1 := by rw [← hx]; simp
  clear hx
  have b1 := new_block x (.cells #[.int .i64 0, .int .i64 0, .int .i64 0, .int .i64 0, .int .i64 0, .int .i64 0] 35)
  have k1 := (Kept.refl x).alloc (.cells #[.int .i64 0, .int .i64 0, .int .i64 0, .int .i64 0, .int .i64 0, .int .i64 0] 35)
  rw [s1] at b1
  generalize x.alloc (.cells #[.int .i64 0, .int .i64 0, .int .i64 0, .int .i64 0, .int .i64 0, .int .i64 0] 35) = y at *
  have B1 := Lib.hid (B0.out.kept k1)
  have R1 := Lib.hid b1
  have K1 := Lib.hid (K0.out.trans k1)
  clear B0 K0 k1 b1 s1
  go_wp2_with (refine wpList_load_row rfl 25 _ rfl w.heap.size rfl 25 _ (0, 0) _ B1.out Try.underlying25 rfl (by kernel_rfl) ?_)
  refine (off_yes z t _ HZ.out HT.out).mono ?_
  rintro e w1 ⟨rfl, k2⟩
  generalize offP z t = o at *
  have R2 := Lib.hid ((k2.block _ (Array.getElem?_eq_some_iff.1 R1.out).1).trans R1.out)
  have K2 := Lib.hid (K1.out.trans k2)
  clear B1 R1 K1 k2
  go_wp2_with fail
  refine (at_yes _ _ HC.out).mono ?_
  rintro e w2 ⟨hD, rfl, k3⟩
  have R3 := Lib.hid ((k3.block _ (Array.getElem?_eq_some_iff.1 R2.out).1).trans R2.out)
  have K3 := Lib.hid (K2.out.trans k3)
  clear R2 K2 k3
  have kb : Kept w w2 := K3.out
  have e0 := cell_of R3.out (j := 0) rfl
  have e1 := cell_of R3.out (j := 1) rfl
  have e2 := cell_of R3.out (j := 2) rfl
  have e3 := cell_of R3.out (j := 3) rfl
  have e4 := cell_of R3.out (j := 4) rfl
  have e5 := cell_of R3.out (j := 5) rfl
  have f0 : ∀ j, w2.frozen? ⟨w.heap.size + 1, j, none⟩ = false := fun j => by have := R3.out; simp [World.frozen?, this]
  have HD := Lib.hid hD; clear hD K3
  go_wp2
  exact bodyPost_ret (v := .tuple #[cv (t + o), .int .i64 0]) (by simp [results, Try.results17, go_sem, *]) rfl ⟨HD.out, rfl, (((((kb.setCell (Nat.le_succ _) _).setCell (Nat.le_succ _) _).setCell (Nat.le_succ _) _).setCell (Nat.le_succ _) _).setCell (Nat.le_succ _) _).setCell (Nat.le_succ _) _⟩
set_option maxRecDepth 100000 in
set_option maxHeartbeats 2000000 in
theorem lat_out (z : Zo) (t : Int) (w : World) (hz : mayZ z = true) (ht : scB t = true) (hc : ¬ inCal (t + offP z t)) :
    Calls Try.prog 17 #[zoV z, .int .i64 t] w fun e w' => e = .returned (.tuple #[civ 0 0 0 0 0 0, .int .i64 1]) ∧ Kept w w' := by
  have HZ := Lib.hid hz; have HT := Lib.hid ht; have HC := Lib.hid hc
  have ob := offP_bd hz t
  have tb : 0 ≤ t ∧ t ≤ 253402300799 := by simpa [scB] using ht
  clear hz ht hc
  have B0 := Lib.hid (bz_new w z)
  have K0 := Lib.hid ((Kept.refl w).alloc (.cells (zo15 z.std z.off z.has z.dst z.ahead z.fr.k z.fr.m z.fr.w z.fr.d z.fr.a z.to.k z.to.m z.to.w z.to.d z.to.a) 25))
  go_enter Try.func17, Try.ntmps17
  go_upto_region 1 with (fail)
  generalize hx : w.alloc (.cells (zo15 z.std z.off z.has z.dst z.ahead z.fr.k z.fr.m z.fr.w z.fr.d z.fr.a z.to.k z.to.m z.to.w z.to.d z.to.a) 25) = x at *
  have s1 : x.heap.size = w.heap.size + 1 := by rw [← hx]; simp
  clear hx
  have b1 := new_block x (.cells #[.int .i64 0, .int .i64 0, .int .i64 0, .int .i64 0, .int .i64 0, .int .i64 0] 35)
  have k1 := (Kept.refl x).alloc (.cells #[.int .i64 0, .int .i64 0, .int .i64 0, .int .i64 0, .int .i64 0, .int .i64 0] 35)
  rw [s1] at b1
  generalize x.alloc (.cells #[.int .i64 0, .int .i64 0, .int .i64 0, .int .i64 0, .int .i64 0, .int .i64 0] 35) = y at *
  have B1 := Lib.hid (B0.out.kept k1)
  have R1 := Lib.hid b1
  have K1 := Lib.hid (K0.out.trans k1)
  clear B0 K0 k1 b1 s1
  go_wp2_with (refine wpList_load_row rfl 25 _ rfl w.heap.size rfl 25 _ (0, 0) _ B1.out Try.underlying25 rfl (by kernel_rfl) ?_)
  refine (off_yes z t _ HZ.out HT.out).mono ?_
  rintro e w1 ⟨rfl, k2⟩
  generalize offP z t = o at *
  have R2 := Lib.hid ((k2.block _ (Array.getElem?_eq_some_iff.1 R1.out).1).trans R1.out)
  have K2 := Lib.hid (K1.out.trans k2)
  clear B1 R1 K1 k2
  go_wp2_with fail
  refine (at_not _ _ (by omega) (by omega) HC.out).mono ?_
  rintro e w2 ⟨rfl, k3⟩
  have R3 := Lib.hid ((k3.block _ (Array.getElem?_eq_some_iff.1 R2.out).1).trans R2.out)
  have K3 := Lib.hid (K2.out.trans k3)
  clear R2 K2 k3
  have kb : Kept w w2 := K3.out
  have e0 := cell_of R3.out (j := 0) rfl
  have e1 := cell_of R3.out (j := 1) rfl
  have e2 := cell_of R3.out (j := 2) rfl
  have e3 := cell_of R3.out (j := 3) rfl
  have e4 := cell_of R3.out (j := 4) rfl
  have e5 := cell_of R3.out (j := 5) rfl
  have f0 : ∀ j, w2.frozen? ⟨w.heap.size + 1, j, none⟩ = false := fun j => by have := R3.out; simp [World.frozen?, this]
  clear K3
  go_wp2
  exact bodyPost_ret (v := .tuple #[civ 0 0 0 0 0 0, .int .i64 1]) (by simp [results, Try.results17, go_sem, *]) rfl ⟨rfl, (((((kb.setCell (Nat.le_succ _) _).setCell (Nat.le_succ _) _).setCell (Nat.le_succ _) _).setCell (Nat.le_succ _) _).setCell (Nat.le_succ _) _).setCell (Nat.le_succ _) _⟩
set_option maxRecDepth 100000 in
set_option maxHeartbeats 2000000 in
theorem lat_not (z : Zo) (t : Int) (w : World) (h : (mayZ z && scB t) = false) :
    Calls Try.prog 17 #[zoV z, .int .i64 t] w fun e w' => e = .returned (.tuple #[civ 0 0 0 0 0 0, .int .i64 1]) ∧ Kept w w' := by
  have HN := Lib.hid h; clear h
  have B0 := Lib.hid (bz_new w z)
  have K0 := Lib.hid ((Kept.refl w).alloc (.cells (zo15 z.std z.off z.has z.dst z.ahead z.fr.k z.fr.m z.fr.w z.fr.d z.fr.a z.to.k z.to.m z.to.w z.to.d z.to.a) 25))
  go_enter Try.func17, Try.ntmps17
  go_upto_region 1 with (fail)
  generalize hx : w.alloc (.cells (zo15 z.std z.off z.has z.dst z.ahead z.fr.k z.fr.m z.fr.w z.fr.d z.fr.a z.to.k z.to.m z.to.w z.to.d z.to.a) 25) = x at *
  have s1 : x.heap.size = w.heap.size + 1 := by rw [← hx]; simp
  clear hx
  have b1 := new_block x (.cells #[.int .i64 0, .int .i64 0, .int .i64 0, .int .i64 0, .int .i64 0, .int .i64 0] 35)
  have k1 := (Kept.refl x).alloc (.cells #[.int .i64 0, .int .i64 0, .int .i64 0, .int .i64 0, .int .i64 0, .int .i64 0] 35)
  rw [s1] at b1
  generalize x.alloc (.cells #[.int .i64 0, .int .i64 0, .int .i64 0, .int .i64 0, .int .i64 0, .int .i64 0] 35) = y at *
  have B1 := Lib.hid (B0.out.kept k1)
  have R1 := Lib.hid b1
  have K1 := Lib.hid (K0.out.trans k1)
  clear B0 K0 k1 b1 s1
  go_wp2_with (refine wpList_load_row rfl 25 _ rfl w.heap.size rfl 25 _ (0, 0) _ B1.out Try.underlying25 rfl (by kernel_rfl) ?_)
  refine (off_not z t _ HN.out).mono ?_
  rintro e w2 ⟨rfl, k2⟩
  have R3 := Lib.hid ((k2.block _ (Array.getElem?_eq_some_iff.1 R1.out).1).trans R1.out)
  have K3 := Lib.hid (K1.out.trans k2)
  clear B1 R1 K1 k2
  have kb : Kept w w2 := K3.out
  have e0 := cell_of R3.out (j := 0) rfl
  have e1 := cell_of R3.out (j := 1) rfl
  have e2 := cell_of R3.out (j := 2) rfl
  have e3 := cell_of R3.out (j := 3) rfl
  have e4 := cell_of R3.out (j := 4) rfl
  have e5 := cell_of R3.out (j := 5) rfl
  have f0 : ∀ j, w2.frozen? ⟨w.heap.size + 1, j, none⟩ = false := fun j => by have := R3.out; simp [World.frozen?, this]
  clear K3
  go_wp2
  exact bodyPost_ret (v := .tuple #[civ 0 0 0 0 0 0, .int .i64 1]) (by simp [results, Try.results17, go_sem, *]) rfl ⟨rfl, (((((kb.setCell (Nat.le_succ _) _).setCell (Nat.le_succ _) _).setCell (Nat.le_succ _) _).setCell (Nat.le_succ _) _).setCell (Nat.le_succ _) _).setCell (Nat.le_succ _) _⟩
end Go.Proofs.Ytcgmefojokndhaa
