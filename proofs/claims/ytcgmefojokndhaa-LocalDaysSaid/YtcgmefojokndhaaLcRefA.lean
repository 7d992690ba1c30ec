/- Contracts of the document's answer for layer 4: the day and time there. -/
import Derived.Test.YtcgmefojokndhaaLcRefO
namespace Go.Proofs.Ytcgmefojokndhaa
open Go.ChangeShapes Go.WideShapes Go.ChangeAt Go.RowKit
open Civ Zn Lc
set_option maxRecDepth 100000 in
set_option maxHeartbeats 2000000 in
theorem rAt_yes (z : Zo) (t : Int) (w : World) (l1 : z.std.length ≤ 1000) (l2 : z.dst.length ≤ 1000) (hz : mayZ z = true) (ht : scB t = true) (hc : inCal (t + offP z t)) :
    Calls Try.prog 18 #[zoV z, .int .i64 t] w (AtPost (t + offP z t) w) := by
  have HZ := Lib.hid hz; have HT := Lib.hid ht; have HC := Lib.hid hc
  have ob := offP_bd hz t
  have tb : 0 ≤ t ∧ t ≤ 253402300799 := by simpa [scB] using ht
  clear hz ht hc
  have B0 := Lib.hid (bz_new w z)
  have K0 := Lib.hid ((Kept.refl w).alloc (.cells (zo15 z.std z.off z.has z.dst z.ahead z.fr.k z.fr.m z.fr.w z.fr.d z.fr.a z.to.k z.to.m z.to.w z.to.d z.to.a) 25))
  go_enter Try.func18, Try.ntmps18
  go_upto_region 1 with (fail)
  generalize hx : w.alloc (.cells (zo15 z.std z.off z.has z.dst z.ahead z.fr.k z.fr.m z.fr.w z.fr.d z.fr.a z.to.k z.to.m z.to.w z.to.d z.to.a) 25) = x at *
  have s1 : x.heap.size = w.heap.size + 1 := by rw [← hx]; simp
  clear hx
  have b1 := new_block x (.cells #[.int .i64 0, .int .i64 0, .int .i64 0, .int .i64 0, .int .i64 0, .int .i64 0] 35)
  have k1 := (Kept.refl x).alloc (.cells #[.int .i64 0, .int .i64 0, .int .i64 0, .int .i64 0, .int .i64 0, .int .i64 0] 35)
  rw [s1] at b1
  generalize x.alloc (.cells #[.int .i64 0, .int .i64 0, .int .i64 0, .int .i64 0, .int .i64 0, .int .i64 0] 35) = y at *
  have B1 := Lib.hid (B0.out.kept k1)
  have R1 := Lib.hid b1
  have K1 := Lib.hid (K0.out.trans k1)
  clear B0 K0 k1 b1 s1
  go_wp2_with (refine wpList_load_row rfl 25 _ rfl w.heap.size rfl 25 _ (0, 0) _ B1.out Try.underlying25 rfl (by kernel_rfl) ?_)
  refine (rOff_yes z t _ l1 l2 HZ.out HT.out).mono ?_
  rintro e w1 ⟨rfl, k2⟩
  generalize offP z t = o at *
  have R2 := Lib.hid ((k2.block _ (Array.getElem?_eq_some_iff.1 R1.out).1).trans R1.out)
  have K2 := Lib.hid (K1.out.trans k2)
  clear B1 R1 K1 k2
  go_wp2_with fail
  refine (rat_yes _ _ HC.out).mono ?_
  rintro e w2 ⟨hD, rfl, k3⟩
  have R3 := Lib.hid ((k3.block _ (Array.getElem?_eq_some_iff.1 R2.out).1).trans R2.out)
  have K3 := Lib.hid (K2.out.trans k3)
  clear R2 K2 k3
  go_upto_region 5 with (fail)
  have kc := (Kept.refl w2).alloc (.cells #[.int .i64 (yr ((t + o) / 86400)), .int .i64 (mo ((t + o) / 86400)), .int .i64 (dy ((t + o) / 86400)), .int .i64 ((t + o) % 86400 / 3600), .int .i64 ((t + o) % 3600 / 60), .int .i64 ((t + o) % 60)] 35)
  have nc := new_block w2 (.cells #[.int .i64 (yr ((t + o) / 86400)), .int .i64 (mo ((t + o) / 86400)), .int .i64 (dy ((t + o) / 86400)), .int .i64 ((t + o) % 86400 / 3600), .int .i64 ((t + o) % 3600 / 60), .int .i64 ((t + o) % 60)] 35)
  generalize w2.heap.size = q at *
  generalize w2.alloc (.cells #[.int .i64 (yr ((t + o) / 86400)), .int .i64 (mo ((t + o) / 86400)), .int .i64 (dy ((t + o) / 86400)), .int .i64 ((t + o) % 86400 / 3600), .int .i64 ((t + o) % 3600 / 60), .int .i64 ((t + o) % 60)] 35) = X at *
  have R4 := Lib.hid ((kc.block _ (Array.getElem?_eq_some_iff.1 R3.out).1).trans R3.out)
  have kb : Kept w X := K3.out.trans kc
  clear K3 R3
  have d0 := cell_of nc (j := 0) rfl
  have d1 := cell_of nc (j := 1) rfl
  have d2 := cell_of nc (j := 2) rfl
  have d3 := cell_of nc (j := 3) rfl
  have d4 := cell_of nc (j := 4) rfl
  have d5 := cell_of nc (j := 5) rfl
  clear nc kc
  have e0 := cell_of R4.out (j := 0) rfl
  have e1 := cell_of R4.out (j := 1) rfl
  have e2 := cell_of R4.out (j := 2) rfl
  have e3 := cell_of R4.out (j := 3) rfl
  have e4 := cell_of R4.out (j := 4) rfl
  have e5 := cell_of R4.out (j := 5) rfl
  have f0 : ∀ j, X.frozen? ⟨w.heap.size + 1, j, none⟩ = false := fun j => by have := R4.out; simp [World.frozen?, this]
  have HD := Lib.hid hD; clear hD
  go_wp2
  exact bodyPost_ret (v := .tuple #[cv (t + o), .int .i64 0]) (by simp [results, Try.results18, go_sem, *]) rfl ⟨HD.out, rfl, (((((kb.setCell (Nat.le_succ _) _).setCell (Nat.le_succ _) _).setCell (Nat.le_succ _) _).setCell (Nat.le_succ _) _).setCell (Nat.le_succ _) _).setCell (Nat.le_succ _) _⟩
set_option maxRecDepth 100000 in
set_option maxHeartbeats 2000000 in
theorem rAt_out (z : Zo) (t : Int) (w : World) (l1 : z.std.length ≤ 1000) (l2 : z.dst.length ≤ 1000) (hz : mayZ z = true) (ht : scB t = true) (hc : ¬ inCal (t + offP z t)) :
    Calls Try.prog 18 #[zoV z, .int .i64 t] w fun e w' => e = .returned (.tuple #[civ 0 0 0 0 0 0, .int .i64 1]) ∧ Kept w w' := by
  have HZ := Lib.hid hz; have HT := Lib.hid ht; have HC := Lib.hid hc
  have ob := offP_bd hz t
  have tb : 0 ≤ t ∧ t ≤ 253402300799 := by simpa [scB] using ht
  clear hz ht hc
  have B0 := Lib.hid (bz_new w z)
  have K0 := Lib.hid ((Kept.refl w).alloc (.cells (zo15 z.std z.off z.has z.dst z.ahead z.fr.k z.fr.m z.fr.w z.fr.d z.fr.a z.to.k z.to.m z.to.w z.to.d z.to.a) 25))
  go_enter Try.func18, Try.ntmps18
  go_upto_region 1 with (fail)
  generalize hx : w.alloc (.cells (zo15 z.std z.off z.has z.dst z.ahead z.fr.k z.fr.m z.fr.w z.fr.d z.fr.a z.to.k z.to.m z.to.w z.to.d z.to.a) 25) = x at *
  have s1 : x.heap.size = w.heap.size + 1 := by rw [← hx]; simp
  clear hx
  have b1 := new_block x (.cells #[.int .i64 0, .int .i64 0, .int .i64 0, .int .i64 0, .int .i64 0, .int .i64 0] 35)
  have k1 := (Kept.refl x).alloc (.cells #[.int .i64 0, .int .i64 0, .int .i64 0, .int .i64 0, .int .i64 0, .int .i64 0] 35)
  rw [s1] at b1
  generalize x.alloc (.cells #[.int .i64 0, .int .i64 0, .int .i64 0, .int .i64 0, .int .i64 0, .int .i64 0] 35) = y at *
  have B1 := Lib.hid (B0.out.kept k1)
  have R1 := Lib.hid b1
  have K1 := Lib.hid (K0.out.trans k1)
  clear B0 K0 k1 b1 s1
  go_wp2_with (refine wpList_load_row rfl 25 _ rfl w.heap.size rfl 25 _ (0, 0) _ B1.out Try.underlying25 rfl (by kernel_rfl) ?_)
  refine (rOff_yes z t _ l1 l2 HZ.out HT.out).mono ?_
  rintro e w1 ⟨rfl, k2⟩
  generalize offP z t = o at *
  have R2 := Lib.hid ((k2.block _ (Array.getElem?_eq_some_iff.1 R1.out).1).trans R1.out)
  have K2 := Lib.hid (K1.out.trans k2)
  clear B1 R1 K1 k2
  go_wp2_with fail
  refine (rat_not _ _ (by omega) (by omega) HC.out).mono ?_
  rintro e w2 ⟨rfl, k3⟩
  have R3 := Lib.hid ((k3.block _ (Array.getElem?_eq_some_iff.1 R2.out).1).trans R2.out)
  have K3 := Lib.hid (K2.out.trans k3)
  clear R2 K2 k3
  go_upto_region 5 with (fail)
  have kc := (Kept.refl w2).alloc (.cells #[.int .i64 0, .int .i64 0, .int .i64 0, .int .i64 0, .int .i64 0, .int .i64 0] 35)
  have nc := new_block w2 (.cells #[.int .i64 0, .int .i64 0, .int .i64 0, .int .i64 0, .int .i64 0, .int .i64 0] 35)
  generalize w2.heap.size = q at *
  generalize w2.alloc (.cells #[.int .i64 0, .int .i64 0, .int .i64 0, .int .i64 0, .int .i64 0, .int .i64 0] 35) = X at *
  have R4 := Lib.hid ((kc.block _ (Array.getElem?_eq_some_iff.1 R3.out).1).trans R3.out)
  have kb : Kept w X := K3.out.trans kc
  clear K3 R3
  have d0 := cell_of nc (j := 0) rfl
  have d1 := cell_of nc (j := 1) rfl
  have d2 := cell_of nc (j := 2) rfl
  have d3 := cell_of nc (j := 3) rfl
  have d4 := cell_of nc (j := 4) rfl
  have d5 := cell_of nc (j := 5) rfl
  clear nc kc
  have e0 := cell_of R4.out (j := 0) rfl
  have e1 := cell_of R4.out (j := 1) rfl
  have e2 := cell_of R4.out (j := 2) rfl
  have e3 := cell_of R4.out (j := 3) rfl
  have e4 := cell_of R4.out (j := 4) rfl
  have e5 := cell_of R4.out (j := 5) rfl
  have f0 : ∀ j, X.frozen? ⟨w.heap.size + 1, j, none⟩ = false := fun j => by have := R4.out; simp [World.frozen?, this]
  go_wp2
  exact bodyPost_ret (v := .tuple #[civ 0 0 0 0 0 0, .int .i64 1]) (by simp [results, Try.results18, go_sem, *]) rfl ⟨rfl, (((((kb.setCell (Nat.le_succ _) _).setCell (Nat.le_succ _) _).setCell (Nat.le_succ _) _).setCell (Nat.le_succ _) _).setCell (Nat.le_succ _) _).setCell (Nat.le_succ _) _⟩
set_option maxRecDepth 100000 in
set_option maxHeartbeats 2000000 in
theorem rAt_not (z : Zo) (t : Int) (w : World) (l1 : z.std.length ≤ 1000) (l2 : z.dst.length ≤ 1000) (h : (mayZ z && scB t) = false) :
    Calls Try.prog 18 #[zoV z, .int .i64 t] w fun e w' => e = .returned (.tuple #[civ 0 0 0 0 0 0, .int .i64 1]) ∧ Kept w w' := by
  have HN := Lib.hid h; clear h
  have B0 := Lib.hid (bz_new w z)
  have K0 := Lib.hid ((Kept.refl w).alloc (.cells (zo15 z.std z.off z.has z.dst z.ahead z.fr.k z.fr.m z.fr.w z.fr.d z.fr.a z.to.k z.to.m z.to.w z.to.d z.to.a) 25))
  go_enter Try.func18, Try.ntmps18
  go_upto_region 1 with (fail)
  generalize hx : w.alloc (.cells (zo15 z.std z.off z.has z.dst z.ahead z.fr.k z.fr.m z.fr.w z.fr.d z.fr.a z.to.k z.to.m z.to.w z.to.d z.to.a) 25) = x at *
  have s1 : x.heap.size = w.heap.size + 1 := by rw [← hx]; simp
  clear hx
  have b1 := new_block x (.cells #[.int .i64 0, .int .i64 0, .int .i64 0, .int .i64 0, .int .i64 0, .int .i64 0] 35)
  have k1 := (Kept.refl x).alloc (.cells #[.int .i64 0, .int .i64 0, .int .i64 0, .int .i64 0, .int .i64 0, .int .i64 0] 35)
  rw [s1] at b1
  generalize x.alloc (.cells #[.int .i64 0, .int .i64 0, .int .i64 0, .int .i64 0, .int .i64 0, .int .i64 0] 35) = y at *
  have B1 := Lib.hid (B0.out.kept k1)
  have R1 := Lib.hid b1
  have K1 := Lib.hid (K0.out.trans k1)
  clear B0 K0 k1 b1 s1
  go_wp2_with (refine wpList_load_row rfl 25 _ rfl w.heap.size rfl 25 _ (0, 0) _ B1.out Try.underlying25 rfl (by kernel_rfl) ?_)
  refine (rOff_not z t _ l1 l2 HN.out).mono ?_
  rintro e w2 ⟨rfl, k2⟩
  have R3 := Lib.hid ((k2.block _ (Array.getElem?_eq_some_iff.1 R1.out).1).trans R1.out)
  have K3 := Lib.hid (K1.out.trans k2)
  clear B1 R1 K1 k2
  have kb : Kept w w2 := K3.out
  have e0 := cell_of R3.out (j := 0) rfl
  have e1 := cell_of R3.out (j := 1) rfl
  have e2 := cell_of R3.out (j := 2) rfl
  have e3 := cell_of R3.out (j := 3) rfl
  have e4 := cell_of R3.out (j := 4) rfl
  have e5 := cell_of R3.out (j := 5) rfl
  have f0 : ∀ j, w2.frozen? ⟨w.heap.size + 1, j, none⟩ = false := fun j => by have := R3.out; simp [World.frozen?, this]
  clear K3
  go_wp2
  exact bodyPost_ret (v := .tuple #[civ 0 0 0 0 0 0, .int .i64 1]) (by simp [results, Try.results18, go_sem, *]) rfl ⟨rfl, (((((kb.setCell (Nat.le_succ _) _).setCell (Nat.le_succ _) _).setCell (Nat.le_succ _) _).setCell (Nat.le_succ _) _).setCell (Nat.le_succ _) _).setCell (Nat.le_succ _) _⟩
end Go.Proofs.Ytcgmefojokndhaa
