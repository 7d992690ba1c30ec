/- Several texts of this seat, one behind the other. -/
import Derived.Test.YtilgamjahediiaaGreatDoorFrP
import Derived.Test.YtilgamjahediiaaGreatDoorCrB
import Derived.Test.YtilgamjahediiaaGreatDoorFrRef
import Derived.Test.YtilgamjahediiaaGreatDoorCrFew
/- Plain mathematics of layer fire: the chapter's example. -/
set_option linter.unusedVariables false
namespace Go.Proofs.YtilgamjahediiaaGreatDoor
open Go.ChangeShapes Go.WideShapes Go.ChangeAt Go.RowKit
open Civ Zn Lc Crn
abbrev sH : List UInt8 := [51, 48, 32, 50, 32, 42, 32, 42, 32, 42]
theorem prs_H : (prs sH).map tup = some (([30], [2], [1, 2, 3, 4, 5, 6, 7, 8, 9, 10, 11, 12, 13, 14, 15, 16, 17, 18, 19, 20, 21, 22, 23, 24, 25, 26, 27, 28, 29, 30, 31], [1, 2, 3, 4, 5, 6, 7, 8, 9, 10, 11, 12], [0, 1, 2, 3, 4, 5, 6]), (false, false, true, true, true)) := by kernel_rfl
/-- half past two, each day -/
def Half (c : CR) : Prop := tup c = (([30], [2], [1, 2, 3, 4, 5, 6, 7, 8, 9, 10, 11, 12, 13, 14, 15, 16, 17, 18, 19, 20, 21, 22, 23, 24, 25, 26, 27, 28, 29, 30, 31], [1, 2, 3, 4, 5, 6, 7, 8, 9, 10, 11, 12], [0, 1, 2, 3, 4, 5, 6]), (false, false, true, true, true))
theorem half_H : ∃ c, prs sH = some c ∧ Half c := by
  have h := prs_H
  cases hp : prs sH with
  | none => rw [hp] at h; cases h
  | some c => rw [hp] at h; exact ⟨c, rfl, Option.some.inj h⟩
theorem half_may {c : CR} (h : Half c) : mayC c = true := by rw [mayT_eq, h]; decide +kernel
theorem half_hm {c : CR} (h : Half c) {x : Six} (hm : mtS c x = true) : x.h = 2 ∧ x.i = 30 := by
  unfold mtS matchC at hm
  simp only [Bool.and_eq_true] at hm
  obtain ⟨⟨⟨_, h1⟩, h2⟩, _⟩ := hm
  have e0 : c.L 0 = [30] := congrArg (·.1.1) h
  have e1 : c.L 1 = [2] := congrArg (·.1.2.1) h
  rw [e0] at h1; rw [e1] at h2
  unfold hasB at h1 h2
  simp at h1 h2
  exact ⟨h2, h1⟩
theorem yrs_A : yr 19812 = 2024 ∧ yr 20022 = 2024 :=
  ⟨(ymd_of (n := 19812) (y := 2024) (m := 3) (d := 30) (by unfold okP; decide +kernel) (by decide +kernel)).1, (ymd_of (n := 20022) (y := 2024) (m := 10) (d := 26) (by unfold okP; decide +kernel) (by decide +kernel)).1⟩
theorem y24_A {t : Int} (h : 1711756800 ≤ t ∧ t < 1711929600 ∨ 1729900800 ≤ t ∧ t < 1730073600) : yr (t / 86400) = 2024 := by
  have : t / 86400 = 19812 ∨ t / 86400 = 19813 ∨ t / 86400 = 20022 ∨ t / 86400 = 20023 := by omega
  rcases this with e | e | e | e <;> rw [e]
  · exact yrs_A.1
  · exact yr_A.2
  · exact yrs_A.2
  · exact yr_A.1
theorem off_1 {t : Int} (h1 : 1711756800 ≤ t) (h2 : t < 1711846800) : offP zA t = 3600 := by
  rw [offP_A (y24_A (by omega)), if_neg (show ¬ (1761440400 : Int) ≤ t by omega), if_neg (show ¬ (1729990800 : Int) ≤ t by omega), if_pos (show (1698541200 : Int) ≤ t by omega), if_neg (show ¬ (1743296400 : Int) ≤ t by omega), if_neg (show ¬ (1711846800 : Int) ≤ t by omega), if_pos (show (1679792400 : Int) ≤ t by omega)]
  decide
theorem off_2 {t : Int} (h : 1711846800 ≤ t ∧ t < 1711929600 ∨ 1729900800 ≤ t ∧ t < 1729990800) : offP zA t = 7200 := by
  rw [offP_A (y24_A (by omega)), if_neg (show ¬ (1761440400 : Int) ≤ t by omega), if_neg (show ¬ (1729990800 : Int) ≤ t by omega), if_pos (show (1698541200 : Int) ≤ t by omega), if_neg (show ¬ (1743296400 : Int) ≤ t by omega), if_pos (show (1711846800 : Int) ≤ t by omega)]
  decide
theorem ok_A {t : Int} (h : 0 ≤ t ∧ t ≤ 253402300799) : oOk zA t = true := by
  unfold oOk; rw [may_A]; simpa [scB] using h
theorem oA_A {t o : Int} (h : 0 ≤ t ∧ t ≤ 253402300799) (ho : offP zA t = o) : oA zA t = o := by unfold oA; rw [if_pos (ok_A h), ho]
theorem at_A {t o : Int} (h : 0 ≤ t ∧ t ≤ 2534022000) (ho : offP zA t = o) (hb : -90000 ≤ o ∧ o ≤ 90000) : atE zA t = 0 ∧ atS zA t = ⟨yr ((t + o) / 86400), mo ((t + o) / 86400), dy ((t + o) / 86400), (t + o) % 86400 / 3600, (t + o) % 3600 / 60, (t + o) % 60⟩ := by
  have hk : AtOk zA t := ⟨ok_A (by omega), by rw [ho]; unfold inCal; omega⟩
  unfold atE atS
  rw [if_pos hk, if_pos hk, ho]
  exact ⟨rfl, rfl⟩
theorem g_no {t o : Int} (h : 1 ≤ t ∧ t ≤ 253402300799) (h1 : offP zA (t - 1) = o) (h2 : offP zA t = o) : gN zA t = 0 := by
  unfold gN
  rw [if_neg]
  intro q
  have := q.2
  rw [oA_A (by omega) h1, oA_A (by omega) h2] at this
  omega
theorem fr_no {c : CR} (hc : Half c) {t o : Int} (h : 1 ≤ t ∧ t ≤ 2534022000) (ho : -90000 ≤ o ∧ o ≤ 90000) (h1 : offP zA (t - 1) = o) (h2 : offP zA t = o) (hm : ¬ ((t + o) % 86400 / 3600 = 2 ∧ (t + o) % 3600 / 60 = 30)) : frP zA c t = false := by
  have hg := g_no (by omega) h1 h2
  obtain ⟨_, ha⟩ := at_A (by omega) h2 ho
  have hmt : mtS c (atS zA t) = false := by
    cases q : mtS c (atS zA t) with
    | false => rfl
    | true => have := half_hm hc q; rw [ha] at this; exact absurd this hm
  unfold frP
  rw [hmt, hg]; simp
theorem skF_yes {c : CR} {t k0 : Int} (h : (decide (seE (t + k0) = 0) && mtS c (seS (t + k0))) = true) : ∀ (n : Nat) (k : Int), k ≤ k0 → k0 < k + n → skF c t n k = true
  | 0, k, h1, h2 => by omega
  | n + 1, k, h1, h2 => by
    rw [skF]
    by_cases hk : k = k0
    · subst hk; rw [h]; rfl
    · rw [skF_yes h n (k + 1) (by omega) (by omega)]; simp
theorem d_A : (yr 19813 = 2024 ∧ mo 19813 = 3 ∧ dy 19813 = 31) ∧ (yr 20023 = 2024 ∧ mo 20023 = 10 ∧ dy 20023 = 27) :=
  ⟨ymd_of (n := 19813) (y := 2024) (m := 3) (d := 31) (by unfold okP; decide +kernel) (by decide +kernel), ymd_of (n := 20023) (y := 2024) (m := 10) (d := 27) (by unfold okP; decide +kernel) (by decide +kernel)⟩
theorem mt_1 {c : CR} (h : Half c) : mtS c ⟨2024, 3, 31, 2, 30, 0⟩ = true ∧ mtS c ⟨2024, 10, 27, 2, 30, 0⟩ = true := by
  unfold mtS
  rw [matchT_eq, matchT_eq, h]
  exact ⟨by decide +kernel, by decide +kernel⟩
theorem gap_A : gN zA 1711846800 = 3600 := by
  have o1 := oA_A (t := 1711846799) (by omega) (off_1 (by omega) (by omega))
  have o2 := oA_A (t := 1711846800) (by omega) (off_2 (by omega))
  have hy : gYes zA 1711846800 := ⟨by unfold gOk; rw [may_A]; decide, by rw [show (1711846800 : Int) - 1 = 1711846799 by decide, o1, o2]; decide⟩
  unfold gN
  rw [if_pos hy, show (1711846800 : Int) - 1 = 1711846799 by decide, o1, o2]; decide
theorem fires_1 {c : CR} (h : Half c) : frP zA c 1711846800 = true := by
  have o1 := oA_A (t := 1711846799) (by omega) (off_1 (by omega) (by omega))
  have hs : seS 1711852200 = ⟨2024, 3, 31, 2, 30, 0⟩ ∧ seE 1711852200 = 0 := by
    have hc : inCal 1711852200 := by unfold inCal; omega
    unfold seS seE
    rw [if_pos hc, if_pos hc, show (1711852200 : Int) / 86400 = 19813 by decide, d_A.1.1, d_A.1.2.1, d_A.1.2.2]
    exact ⟨by rw [Six.mk.injEq]; decide +kernel, rfl⟩
  have hk : skP c (1711846800 + oA zA (1711846800 - 1)) (gN zA 1711846800) = true := by
    rw [gap_A, show (1711846800 : Int) - 1 = 1711846799 by decide, o1]
    unfold skP
    refine skF_yes (k0 := 1800) ?_ _ _ (by omega) (by decide)
    rw [show (1711846800 : Int) + 3600 + 1800 = 1711852200 by decide, hs.1, hs.2, (mt_1 h).1]; rfl
  unfold frP
  rw [hk, gap_A, may_A, half_may h]; simp
theorem fires_2 {c : CR} (h : Half c) : frP zA c 1729989000 = true := by
  obtain ⟨e1, e2⟩ := at_A (t := 1729989000) (by omega) (off_2 (by omega)) (by omega)
  have e3 : atS zA 1729989000 = ⟨2024, 10, 27, 2, 30, 0⟩ := by
    rw [e2, show ((1729989000 : Int) + 7200) / 86400 = 20023 by decide, d_A.2.1, d_A.2.2.1, d_A.2.2.2, Six.mk.injEq]; decide +kernel
  have hf : fsP zA ⟨2024, 10, 27, 2, 30, 0⟩ 1729989000 = true := by
    have hk : CivOk zA ⟨2024, 10, 27, 2, 30, 0⟩ := ⟨may_A, by unfold okP; decide +kernel, by decide, by decide, by decide⟩
    unfold fsP ofE ofS
    rw [if_pos hk, if_pos hk]
    have hl : (ofL zA (sixN ⟨2024, 10, 27, 2, 30, 0⟩))[0]? = some 1729989000 := by
      show (ofL zA (sec 2024 10 27 2 30 0))[0]? = _
      rw [sec_A.1, of_A.1]; rfl
    rw [decide_eq_true hl]; rfl
  unfold frP
  rw [e1, e3, hf, (mt_1 h).2, may_A, half_may h]; simp
theorem next_1 {c : CR} (h : Half c) : nxP zA c 1711800000 1711886400 = some 1711846800 := by
  unfold nxP
  rw [if_neg (by omega)]
  refine nxF_of (by omega) (by omega) (fires_1 h) (fun u u1 u2 => ?_)
  exact fr_no h (o := 3600) (by omega) (by omega) (off_1 (by omega) (by omega)) (off_1 (by omega) (by omega)) (by omega)
theorem next_2 {c : CR} (h : Half c) : nxP zA c 1729950000 1730036400 = some 1729989000 := by
  unfold nxP
  rw [if_neg (by omega)]
  refine nxF_of (by omega) (by omega) (fires_2 h) (fun u u1 u2 => ?_)
  exact fr_no h (o := 7200) (by omega) (by omega) (off_2 (by omega)) (off_2 (by omega)) (by omega)
end Go.Proofs.YtilgamjahediiaaGreatDoor
/- What every law of layer fire asks first (given the contracts of package fire). -/
set_option linter.unusedVariables false
namespace Go.Proofs.YtilgamjahediiaaGreatDoor
open Go.ChangeShapes Go.WideShapes Go.ChangeAt Go.RowKit
open Civ Zn Lc Crn
/-- the contracts of package fire -/
def GapC : Prop := ∀ (z : Zo) (t : Int) (w : World), -9223372036854775808 ≤ t → t ≤ 9223372036854775807 → Calls Tryz.prog 12 #[zoV z, .int .i64 t] w fun e w' => e = .returned (.tuple #[.int .i64 (gN z t), sixV (gC z t)]) ∧ Kept w w'
def FiresC : Prop := ∀ (z : Zo) (c : CR) (sl : Nat → Value) (t : Int) (w : World), -9223372036854775808 ≤ t → t ≤ 9223372036854775807 → Cr w sl c.L → Calls Tryz.prog 15 #[zoV z, crV sl c.st, .int .i64 t] w fun e w' => e = .returned (.bool (frP z c t)) ∧ Kept w w'
def NextC : Prop := ∀ (z : Zo) (c : CR) (sl : Nat → Value) (a b : Int) (w : World), -1125899906842624 ≤ a → a ≤ 1125899906842624 → -1125899906842624 ≤ b → b ≤ 1125899906842624 → Cr w sl c.L → Calls Tryz.prog 16 #[zoV z, crV sl c.st, .int .i64 a, .int .i64 b] w fun e w' => e = .returned (.tuple #[.int .i64 ((nxP z c a b).getD 0), .bool (nxP z c a b).isSome]) ∧ Kept w w'
set_option maxRecDepth 100000 in
set_option maxHeartbeats 4000000 in
theorem few6_any (z : Zo) (c : CR) (sl : Nat → Value) (w : World) (hc : Cr w sl c.L) (h1 : z.std.length ≤ maxLen) (h2 : z.dst.length ≤ maxLen) : Calls Tryz.prog 11 #[zoV z, crV sl c.st] w fun e w' => e = .returned (.bool (shB z && decide (FewP c))) ∧ Kept w w' := by
  have k0 := (Kept.refl w).alloc (.cells (zo15 z.std z.off z.has z.dst z.ahead z.fr.k z.fr.m z.fr.w z.fr.d z.fr.a z.to.k z.to.m z.to.w z.to.d z.to.a) 25)
  have b0 := bz_new w z
  go_enter Tryz.func11, Tryz.ntmps11
  go_upto_region 1 with (fail)
  generalize hx : w.alloc (.cells (zo15 z.std z.off z.has z.dst z.ahead z.fr.k z.fr.m z.fr.w z.fr.d z.fr.a z.to.k z.to.m z.to.w z.to.d z.to.a) 25) = x at *
  have s1 : x.heap.size = w.heap.size + 1 := by rw [← hx]; simp
  clear hx
  have c1 : Cb (w.heap.size + 1) sl c.st (x.alloc (.cells (cr10 sl c.st) 30)) := by rw [← s1]; exact Cb.new sl c.st x
  have k1 := (Kept.refl x).alloc (.cells (cr10 sl c.st) 30)
  generalize x.alloc (.cells (cr10 sl c.st) 30) = X at *
  have Z1 := Lib.hid (b0.kept k1); have B1 := Lib.hid c1; have K1 := Lib.hid (k0.trans k1); have C1 := Lib.hid (hc.kept (k0.trans k1))
  clear b0 k0 k1 c1 s1 hc
  go_wp2_with (refine wpList_load_row rfl 25 _ rfl w.heap.size rfl 25 _ (0, 0) _ Z1.out Tryz.underlying25 rfl (by kernel_rfl) ?_)
  refine (short_any z _ h1 h2).mono ?_
  rintro e x2 ⟨rfl, k2⟩
  have B2 := Lib.hid (B1.out.kept k2); have C2 := Lib.hid (C1.out.kept k2); have K2 := Lib.hid (K1.out.trans k2)
  clear k2 Z1 B1 C1 K1
  go_wp2_with (refine wpList_load_row rfl 30 _ rfl (w.heap.size + 1) rfl 30 _ (0, 0) _ B2.out Tryz.underlying30 rfl (by kernel_rfl) ?_)
  refine (few_any c sl _ C2.out).mono ?_
  rintro e x3 ⟨rfl, k3⟩
  have K3 := Lib.hid (K2.out.trans k3)
  clear k3 K2 B2 C2
  cases hs : shB z
  all_goals
    go_wp2
    go_ret
    exact ⟨ret_bool (by rw [hs]; rfl), K3.out⟩
set_option maxRecDepth 100000 in
set_option maxHeartbeats 4000000 in
theorem half_any (n : Nat) (w : World) (ht : Tb n w) (hn : n ≤ w.heap.size) : Calls Tryz.prog 24 #[] w fun e w' => ∃ sl c, Half c ∧ e = .returned (crV sl c.st) ∧ Cr w' sl c.L ∧ Kept w w' := by
  have Z0 := Lib.hid (box_z w)
  have K0 := Lib.hid ((Kept.refl w).alloc (.cells z10 30))
  have T0 := Lib.hid (ht.kept K0.out)
  obtain ⟨c, hp, hc⟩ := half_H
  have R := Lib.hid hp
  have hlt := Lib.hid (show w.heap.size < (w.alloc (.cells z10 30)).heap.size by simp)
  have HC := Lib.hid hc
  clear ht hp hc
  go_enter Tryz.func24, Tryz.ntmps24
  go_upto_region 1 with (fail)
  generalize w.alloc (.cells z10 30) = x at *
  have hs0 := K0.out.size
  go_wp2_with fail
  refine (parse_any sH n _ T0.out (by omega) (by decide)).mono ?_
  intro e x2 hp
  unfold ParsePost at hp
  rw [if_neg (by decide), R.out] at hp
  obtain ⟨sa, rfl, co, k2⟩ := hp
  have ca : Cr x2 sa c.L := fun i hi => (co i hi).rs
  have HZ2 := Lib.hid (box_z x2)
  have k3 := k2.trans (box_k x2 sa c.st)
  have BA3 := Lib.hid (box_b x2 sa c.st)
  have ho2 := cr_ones c.st ca
  have CA3 := Lib.hid (fun i hi => (co i hi).kept' (box_k x2 sa c.st))
  have K3 := Lib.hid (K0.out.trans k3)
  have Z3 := Lib.hid ((k3.block _ (Array.getElem?_eq_some_iff.1 Z0.out).1).trans Z0.out)
  clear co ca k2 k3 K0 Z0
  go_upto_region 2 with (refine wpList_store_row rfl 30 _ _ rfl x2.heap.size _ rfl rfl 30 _ HZ2.out (by kernel_rfl) rfl ho2 ?_)
  generalize (x2.alloc (.cells z10 30)).setRow x2.heap.size (cr10 sa c.st) = x3 at *
  go_wp2_with (first | refine wpList_load_row rfl 30 _ rfl x2.heap.size rfl 30 _ (0, 0) _ BA3.out Tryz.underlying30 rfl (by kernel_rfl) ?_ | refine wpList_store_row rfl 30 _ _ rfl w.heap.size _ rfl rfl 30 _ Z3.out (by kernel_rfl) rfl ho2 ?_)
  refine bodyPost_ret (v := crV sa c.st) (results_cell_row Tryz.results24 _ _ w.heap.size 30 _ (0, 0) _ rfl (setRow_heap _ _ _ _ _ _ Z3.out) Tryz.underlying30 rfl (by kernel_rfl)) rfl ⟨sa, c, HC.out, rfl, fun i hi => ((CA3.out i hi).bar (Bar.row _ _ _) hlt.out).rs, K3.out.setRow (Nat.le_refl _) _⟩
abbrev zo0 : Array Value := zo15 [] 0 false [] 0 0 0 0 0 0 0 0 0 0 0
theorem bz_z (x : World) : (x.alloc (.cells zo0 25)).heap[x.heap.size]? = some (.cells zo0 25) := new_block x _
theorem bz_setk (x : World) (z : Zo) : Kept x ((x.alloc (.cells zo0 25)).setRow x.heap.size (zo15 z.std z.off z.has z.dst z.ahead z.fr.k z.fr.m z.fr.w z.fr.d z.fr.a z.to.k z.to.m z.to.w z.to.d z.to.a)) := ((Kept.refl x).alloc _).setRow (Nat.le_refl _) _
theorem bz_set (x : World) (z : Zo) : Bz x.heap.size z ((x.alloc (.cells zo0 25)).setRow x.heap.size (zo15 z.std z.off z.has z.dst z.ahead z.fr.k z.fr.m z.fr.w z.fr.d z.fr.a z.to.k z.to.m z.to.w z.to.d z.to.a)) := setRow_heap _ _ _ _ _ _ (bz_z x)
/-- a zone's cells, one by one -/
theorem bz_cells {b : Nat} {z : Zo} {y : World} (h : Bz b z y) : y.cell? ⟨b, 0, none⟩ = some (.string ⟨z.std.toArray⟩) ∧ y.cell? ⟨b, 1, none⟩ = some (.int .i64 z.off) ∧ y.cell? ⟨b, 2, none⟩ = some (.bool z.has) ∧ y.cell? ⟨b, 3, none⟩ = some (.string ⟨z.dst.toArray⟩) ∧ y.cell? ⟨b, 4, none⟩ = some (.int .i64 z.ahead) ∧ y.cell? ⟨b, 5, none⟩ = some (.int .i64 z.fr.k) ∧ y.cell? ⟨b, 6, none⟩ = some (.int .i64 z.fr.m) ∧ y.cell? ⟨b, 7, none⟩ = some (.int .i64 z.fr.w) ∧ y.cell? ⟨b, 8, none⟩ = some (.int .i64 z.fr.d) ∧ y.cell? ⟨b, 9, none⟩ = some (.int .i64 z.fr.a) ∧ y.cell? ⟨b, 10, none⟩ = some (.int .i64 z.to.k) ∧ y.cell? ⟨b, 11, none⟩ = some (.int .i64 z.to.m) ∧ y.cell? ⟨b, 12, none⟩ = some (.int .i64 z.to.w) ∧ y.cell? ⟨b, 13, none⟩ = some (.int .i64 z.to.d) ∧ y.cell? ⟨b, 14, none⟩ = some (.int .i64 z.to.a) := ⟨h.cs.c0, h.cs.c1, h.cs.c2, h.cs.c3, h.cs.c4, h.cs.c5, h.cs.c6, h.cs.c7, h.cs.c8, h.cs.c9, h.cs.c10, h.cs.c11, h.cs.c12, h.cs.c13, h.cs.c14⟩
set_option maxRecDepth 100000 in
set_option maxHeartbeats 4000000 in
theorem awake6_any (hG : GapC) (hF : FiresC) (hN : NextC) (w : World) (htab : Tab w) : Calls Tryz.prog 10 #[] w fun e w' => e = .returned (.bool true) ∧ Kept w w' := by
  obtain ⟨z, S, N1, N2, G, F⟩ : ∃ z : Zo, (∀ w : World, Calls Tryz.prog 23 #[] w fun e w' => e = .returned (zoV z) ∧ Kept w w') ∧
      (∀ c sl x, Half c → Cr x sl c.L → Calls Tryz.prog 16 #[zoV z, crV sl c.st, .int .i64 1711800000, .int .i64 1711886400] x fun e x' => e = .returned (.tuple #[.int .i64 1711846800, .bool true]) ∧ Kept x x') ∧
      (∀ c sl x, Half c → Cr x sl c.L → Calls Tryz.prog 16 #[zoV z, crV sl c.st, .int .i64 1729950000, .int .i64 1730036400] x fun e x' => e = .returned (.tuple #[.int .i64 1729989000, .bool true]) ∧ Kept x x') ∧
      (∀ x, ∃ g : Six, Calls Tryz.prog 12 #[zoV z, .int .i64 1711846800] x fun e x' => e = .returned (.tuple #[.int .i64 3600, sixV g]) ∧ Kept x x') ∧
      (∀ c sl x, Half c → Cr x sl c.L → Calls Tryz.prog 15 #[zoV z, crV sl c.st, .int .i64 1711846800] x fun e x' => e = .returned (.bool true) ∧ Kept x x') := by
    refine ⟨zA, someA, fun c sl x hc hx => ?_, fun c sl x hc hx => ?_, fun x => ⟨gC zA 1711846800, ?_⟩, fun c sl x hc hx => ?_⟩
    · have := hN zA c sl 1711800000 1711886400 x (by omega) (by omega) (by omega) (by omega) hx
      rw [next_1 hc] at this; exact this
    · have := hN zA c sl 1729950000 1730036400 x (by omega) (by omega) (by omega) (by omega) hx
      rw [next_2 hc] at this; exact this
    · have := hG zA 1711846800 x (by omega) (by omega)
      rw [gap_A] at this; exact this
    · have := hF zA c sl 1711846800 x (by omega) (by omega) hx
      rw [fires_1 hc] at this; exact this
  have S' := Lib.hid S; have N1' := Lib.hid N1; have N2' := Lib.hid N2; have G' := Lib.hid G; have F' := Lib.hid F
  have T0 := Lib.hid (Tb.start htab)
  clear S N1 N2 G F hG hF hN htab
  go_enter Tryz.func10, Tryz.ntmps10
  go_wp2_with fail
  refine (S'.out _).mono ?_
  rintro e x0 ⟨rfl, k0⟩
  have hs0 := k0.size
  have B1 := Lib.hid (bz_set x0 z)
  have k1 := k0.trans (bz_setk x0 z)
  have K1 := Lib.hid k1
  have T1 := Lib.hid (T0.out.kept k1)
  have HZ := Lib.hid (bz_z x0)
  clear k0 k1 T0
  go_upto_region 2 with (refine wpList_store_row rfl 25 _ _ rfl x0.heap.size _ rfl rfl 25 _ HZ.out (by kernel_rfl) rfl (zo15_one _ _ _ _ _ _ _ _ _ _ _ _ _ _ _) ?_)
  clear HZ
  generalize (x0.alloc (.cells zo0 25)).setRow x0.heap.size (zo15 z.std z.off z.has z.dst z.ahead z.fr.k z.fr.m z.fr.w z.fr.d z.fr.a z.to.k z.to.m z.to.w z.to.d z.to.a) = x1 at *
  generalize x0.heap.size = b at *
  refine wp_region_held_drew (S := (fun y => y.cell? ⟨b, 0, none⟩ = some (.string ⟨z.std.toArray⟩) ∧ y.cell? ⟨b, 1, none⟩ = some (.int .i64 z.off) ∧ y.cell? ⟨b, 2, none⟩ = some (.bool z.has) ∧ y.cell? ⟨b, 3, none⟩ = some (.string ⟨z.dst.toArray⟩) ∧ y.cell? ⟨b, 4, none⟩ = some (.int .i64 z.ahead) ∧ y.cell? ⟨b, 5, none⟩ = some (.int .i64 z.fr.k) ∧ y.cell? ⟨b, 6, none⟩ = some (.int .i64 z.fr.m) ∧ y.cell? ⟨b, 7, none⟩ = some (.int .i64 z.fr.w) ∧ y.cell? ⟨b, 8, none⟩ = some (.int .i64 z.fr.d) ∧ y.cell? ⟨b, 9, none⟩ = some (.int .i64 z.fr.a) ∧ y.cell? ⟨b, 10, none⟩ = some (.int .i64 z.to.k) ∧ y.cell? ⟨b, 11, none⟩ = some (.int .i64 z.to.m) ∧ y.cell? ⟨b, 12, none⟩ = some (.int .i64 z.to.w) ∧ y.cell? ⟨b, 13, none⟩ = some (.int .i64 z.to.d) ∧ y.cell? ⟨b, 14, none⟩ = some (.int .i64 z.to.a))) (by kernel_rfl) (bz_cells (B1.out.kept ((Kept.refl _).drew))) (fun hS0 => ?_)
  refine wpAnyH_take (i := 0) (oi := { dst := some 10, op := Go.Op.load 25 (Go.Operand.tmp 1), type := 25, pos := "law.go:25", after := #[], guard := none }) (v := ?vp0) rfl (by kernel_rfl) (by kernel_rfl) (by kernel_rfl) (fun _ _ _ h => h) (Or.inl ⟨by rfl, ?yp0⟩) (by assumption) ?rp0
  case yp0 => (intro wq hSw; (try dsimp only at hSw); go_simp; try with_reducible rfl)
  simp only [Act.put, List.setIfInBounds_toArray, List.set_cons_zero, List.set_cons_succ]
  refine wpAnyH_ready (rs := [1]) (by kernel_rfl) (by simp) (AllReadyH.cons (o := { dst := some 11, op := Go.Op.call { callee := Go.Callee.value (Go.Operand.func 24), args := #[], argTypes := #[] }, type := 30, pos := "law.go:25", after := #[], guard := none }) rfl (fun K hK => ?_) AllReadyH.nil)
  go_simp
  have KD := Lib.hid ((Kept.refl x1).drew)
  have szd := (K1.out.trans KD.out).size
  go_at_call 24; refine (half_any w.heap.size _ (T1.out.kept KD.out) szd).mono ?_
  rintro e y1 ⟨sl, c, hc, rfl, hcr, q1⟩
  have Q1 := Lib.hid (KD.out.trans q1); have HC := Lib.hid hc; have CR := Lib.hid hcr
  clear hc hcr q1 szd
  refine Shut.out hK _ _ (bz_cells (B1.out.kept Q1.out)) (fun hSb => ?_)
  clear hK K
  try simp only [Act.put, List.setIfInBounds_toArray, List.set_cons_zero, List.set_cons_succ]
  refine wpAnyH_ready (rs := [2]) (by kernel_rfl) (by simp) (AllReadyH.cons (o := { dst := some 12, op := Go.Op.call { callee := Go.Callee.value (Go.Operand.func 16), args := #[Go.Operand.tmp 10, Go.Operand.tmp 11, Go.Operand.const (Go.Value.int Go.IntKind.i64 1711800000), Go.Operand.const (Go.Value.int Go.IntKind.i64 1711886400)], argTypes := #[25, 30, 3, 3] }, type := 38, pos := "law.go:25", after := #[{ on := 0, ground := Go.Ground.data }, { on := 1, ground := Go.Ground.data }, { on := 1, ground := Go.Ground.chain }], guard := none }) rfl (fun K hK => ?_) AllReadyH.nil)
  go_simp
  go_at_call 16; refine (N1'.out c sl _ HC.out CR.out).mono ?_
  rintro e x2 ⟨rfl, q2⟩
  have Q2 := Lib.hid (Q1.out.trans q2)
  clear q2 Q1 HC CR KD
  refine Shut.out hK _ _ (bz_cells (B1.out.kept Q2.out)) (fun hSb => ?_)
  clear hK K
  try simp only [Act.put, List.setIfInBounds_toArray, List.set_cons_zero, List.set_cons_succ]
  refine wpAnyH_take (i := 3) (oi := { dst := some 9, op := Go.Op.move (Go.Operand.tmp 12), type := 38, pos := "law.go:25", after := #[{ on := 2, ground := Go.Ground.data }], guard := none }) (v := ?vp3) rfl (by kernel_rfl) (by kernel_rfl) (by kernel_rfl) (fun _ _ _ h => h) (Or.inl ⟨by rfl, ?yp3⟩) (by assumption) ?rp3
  case yp3 => (intro wq hSw; (try dsimp only at hSw); go_simp; try with_reducible rfl)
  simp only [Act.put, List.setIfInBounds_toArray, List.set_cons_zero, List.set_cons_succ]
  refine wpAnyH_take (i := 4) (oi := { dst := some 13, op := Go.Op.extract (Go.Operand.tmp 9) 0, type := 3, pos := "law.go:25", after := #[{ on := 3, ground := Go.Ground.data }], guard := none }) (v := ?vp4) rfl (by kernel_rfl) (by kernel_rfl) (by kernel_rfl) (fun _ _ _ h => h) (Or.inl ⟨by rfl, ?yp4⟩) (by assumption) ?rp4
  case yp4 => (intro wq hSw; (try dsimp only at hSw); go_simp; try with_reducible rfl)
  simp only [Act.put, List.setIfInBounds_toArray, List.set_cons_zero, List.set_cons_succ]
  refine wpAnyH_take (i := 5) (oi := { dst := some 14, op := Go.Op.extract (Go.Operand.tmp 9) 1, type := 4, pos := "law.go:25", after := #[{ on := 3, ground := Go.Ground.data }, { on := 6, ground := Go.Ground.gcOnly Go.Departure.lateStores }], guard := none }) (v := ?vp5) rfl (by kernel_rfl) (by kernel_rfl) (by kernel_rfl) (fun _ _ _ h => h) (Or.inl ⟨by rfl, ?yp5⟩) (by assumption) ?rp5
  case yp5 => (intro wq hSw; (try dsimp only at hSw); go_simp; try with_reducible rfl)
  simp only [Act.put, List.setIfInBounds_toArray, List.set_cons_zero, List.set_cons_succ]
  refine wpAnyH_take (i := 6) (oi := { dst := some 2, op := Go.Op.assign (Go.Operand.tmp 13), type := 3, pos := "law.go:25", after := #[{ on := 4, ground := Go.Ground.data }, { on := 2, ground := Go.Ground.chain }, { on := 0, ground := Go.Ground.phase }, { on := 1, ground := Go.Ground.phase }, { on := 2, ground := Go.Ground.phase }, { on := 3, ground := Go.Ground.phase }, { on := 4, ground := Go.Ground.phase }, { on := 5, ground := Go.Ground.textOnly Go.Departure.lateStores }], guard := none }) (v := ?vp6) rfl (by kernel_rfl) (by kernel_rfl) (by kernel_rfl) (fun _ _ _ h => h) (Or.inl ⟨by rfl, ?yp6⟩) (by assumption) ?rp6
  case yp6 => (intro wq hSw; (try dsimp only at hSw); go_simp; try with_reducible rfl)
  simp only [Act.put, List.setIfInBounds_toArray, List.set_cons_zero, List.set_cons_succ]
  refine wpAnyH_take (i := 7) (oi := { dst := some 3, op := Go.Op.assign (Go.Operand.tmp 14), type := 4, pos := "law.go:25", after := #[{ on := 5, ground := Go.Ground.data }, { on := 6, ground := Go.Ground.chain }, { on := 0, ground := Go.Ground.phase }, { on := 1, ground := Go.Ground.phase }, { on := 2, ground := Go.Ground.phase }, { on := 3, ground := Go.Ground.phase }, { on := 4, ground := Go.Ground.phase }, { on := 5, ground := Go.Ground.phase }, { on := 6, ground := Go.Ground.phase }], guard := none }) (v := ?vp7) rfl (by kernel_rfl) (by kernel_rfl) (by kernel_rfl) (fun _ _ _ h => h) (Or.inl ⟨by rfl, ?yp7⟩) (by assumption) ?rp7
  case yp7 => (intro wq hSw; (try dsimp only at hSw); go_simp; try with_reducible rfl)
  simp only [Act.put, List.setIfInBounds_toArray, List.set_cons_zero, List.set_cons_succ]
  refine wpAnyH_done (by kernel_rfl) ?_ _
  clear hSb hS0
  have B2 := Lib.hid (B1.out.kept Q2.out); have K2 := Lib.hid (K1.out.trans Q2.out); have T2 := Lib.hid (T1.out.kept Q2.out)
  clear B1 K1 T1 Q2
  go_upto_region 3 with (fail)
  refine wp_region_held_drew (S := (fun y => y.cell? ⟨b, 0, none⟩ = some (.string ⟨z.std.toArray⟩) ∧ y.cell? ⟨b, 1, none⟩ = some (.int .i64 z.off) ∧ y.cell? ⟨b, 2, none⟩ = some (.bool z.has) ∧ y.cell? ⟨b, 3, none⟩ = some (.string ⟨z.dst.toArray⟩) ∧ y.cell? ⟨b, 4, none⟩ = some (.int .i64 z.ahead) ∧ y.cell? ⟨b, 5, none⟩ = some (.int .i64 z.fr.k) ∧ y.cell? ⟨b, 6, none⟩ = some (.int .i64 z.fr.m) ∧ y.cell? ⟨b, 7, none⟩ = some (.int .i64 z.fr.w) ∧ y.cell? ⟨b, 8, none⟩ = some (.int .i64 z.fr.d) ∧ y.cell? ⟨b, 9, none⟩ = some (.int .i64 z.fr.a) ∧ y.cell? ⟨b, 10, none⟩ = some (.int .i64 z.to.k) ∧ y.cell? ⟨b, 11, none⟩ = some (.int .i64 z.to.m) ∧ y.cell? ⟨b, 12, none⟩ = some (.int .i64 z.to.w) ∧ y.cell? ⟨b, 13, none⟩ = some (.int .i64 z.to.d) ∧ y.cell? ⟨b, 14, none⟩ = some (.int .i64 z.to.a))) (by kernel_rfl) (bz_cells (B2.out.kept ((Kept.refl _).drew))) (fun hS0 => ?_)
  refine wpAnyH_take (i := 0) (oi := { dst := some 16, op := Go.Op.load 25 (Go.Operand.tmp 1), type := 25, pos := "law.go:26", after := #[], guard := none }) (v := ?vq0) rfl (by kernel_rfl) (by kernel_rfl) (by kernel_rfl) (fun _ _ _ h => h) (Or.inl ⟨by rfl, ?yq0⟩) (by assumption) ?rq0
  case yq0 => (intro wq hSw; (try dsimp only at hSw); go_simp; try with_reducible rfl)
  simp only [Act.put, List.setIfInBounds_toArray, List.set_cons_zero, List.set_cons_succ]
  refine wpAnyH_ready (rs := [1]) (by kernel_rfl) (by simp) (AllReadyH.cons (o := { dst := some 17, op := Go.Op.call { callee := Go.Callee.value (Go.Operand.func 24), args := #[], argTypes := #[] }, type := 30, pos := "law.go:26", after := #[], guard := none }) rfl (fun K hK => ?_) AllReadyH.nil)
  go_simp
  have KD := Lib.hid ((Kept.refl x2).drew)
  have szd := (K2.out.trans KD.out).size
  go_at_call 24; refine (half_any w.heap.size _ (T2.out.kept KD.out) szd).mono ?_
  rintro e y1 ⟨sl, c, hc, rfl, hcr, q1⟩
  have Q1 := Lib.hid (KD.out.trans q1); have HC := Lib.hid hc; have CR := Lib.hid hcr
  clear hc hcr q1 szd
  refine Shut.out hK _ _ (bz_cells (B2.out.kept Q1.out)) (fun hSb => ?_)
  clear hK K
  try simp only [Act.put, List.setIfInBounds_toArray, List.set_cons_zero, List.set_cons_succ]
  refine wpAnyH_ready (rs := [2]) (by kernel_rfl) (by simp) (AllReadyH.cons (o := { dst := some 18, op := Go.Op.call { callee := Go.Callee.value (Go.Operand.func 16), args := #[Go.Operand.tmp 16, Go.Operand.tmp 17, Go.Operand.const (Go.Value.int Go.IntKind.i64 1729950000), Go.Operand.const (Go.Value.int Go.IntKind.i64 1730036400)], argTypes := #[25, 30, 3, 3] }, type := 38, pos := "law.go:26", after := #[{ on := 0, ground := Go.Ground.data }, { on := 1, ground := Go.Ground.data }, { on := 1, ground := Go.Ground.chain }], guard := none }) rfl (fun K hK => ?_) AllReadyH.nil)
  go_simp
  go_at_call 16; refine (N2'.out c sl _ HC.out CR.out).mono ?_
  rintro e x3 ⟨rfl, q2⟩
  have Q2 := Lib.hid (Q1.out.trans q2)
  clear q2 Q1 HC CR KD
  refine Shut.out hK _ _ (bz_cells (B2.out.kept Q2.out)) (fun hSb => ?_)
  clear hK K
  try simp only [Act.put, List.setIfInBounds_toArray, List.set_cons_zero, List.set_cons_succ]
  refine wpAnyH_take (i := 3) (oi := { dst := some 15, op := Go.Op.move (Go.Operand.tmp 18), type := 38, pos := "law.go:26", after := #[{ on := 2, ground := Go.Ground.data }], guard := none }) (v := ?vq3) rfl (by kernel_rfl) (by kernel_rfl) (by kernel_rfl) (fun _ _ _ h => h) (Or.inl ⟨by rfl, ?yq3⟩) (by assumption) ?rq3
  case yq3 => (intro wq hSw; (try dsimp only at hSw); go_simp; try with_reducible rfl)
  simp only [Act.put, List.setIfInBounds_toArray, List.set_cons_zero, List.set_cons_succ]
  refine wpAnyH_take (i := 4) (oi := { dst := some 19, op := Go.Op.extract (Go.Operand.tmp 15) 0, type := 3, pos := "law.go:26", after := #[{ on := 3, ground := Go.Ground.data }], guard := none }) (v := ?vq4) rfl (by kernel_rfl) (by kernel_rfl) (by kernel_rfl) (fun _ _ _ h => h) (Or.inl ⟨by rfl, ?yq4⟩) (by assumption) ?rq4
  case yq4 => (intro wq hSw; (try dsimp only at hSw); go_simp; try with_reducible rfl)
  simp only [Act.put, List.setIfInBounds_toArray, List.set_cons_zero, List.set_cons_succ]
  refine wpAnyH_take (i := 5) (oi := { dst := some 20, op := Go.Op.extract (Go.Operand.tmp 15) 1, type := 4, pos := "law.go:26", after := #[{ on := 3, ground := Go.Ground.data }, { on := 6, ground := Go.Ground.gcOnly Go.Departure.lateStores }], guard := none }) (v := ?vq5) rfl (by kernel_rfl) (by kernel_rfl) (by kernel_rfl) (fun _ _ _ h => h) (Or.inl ⟨by rfl, ?yq5⟩) (by assumption) ?rq5
  case yq5 => (intro wq hSw; (try dsimp only at hSw); go_simp; try with_reducible rfl)
  simp only [Act.put, List.setIfInBounds_toArray, List.set_cons_zero, List.set_cons_succ]
  refine wpAnyH_take (i := 6) (oi := { dst := some 4, op := Go.Op.assign (Go.Operand.tmp 19), type := 3, pos := "law.go:26", after := #[{ on := 4, ground := Go.Ground.data }, { on := 2, ground := Go.Ground.chain }, { on := 0, ground := Go.Ground.phase }, { on := 1, ground := Go.Ground.phase }, { on := 2, ground := Go.Ground.phase }, { on := 3, ground := Go.Ground.phase }, { on := 4, ground := Go.Ground.phase }, { on := 5, ground := Go.Ground.textOnly Go.Departure.lateStores }], guard := none }) (v := ?vq6) rfl (by kernel_rfl) (by kernel_rfl) (by kernel_rfl) (fun _ _ _ h => h) (Or.inl ⟨by rfl, ?yq6⟩) (by assumption) ?rq6
  case yq6 => (intro wq hSw; (try dsimp only at hSw); go_simp; try with_reducible rfl)
  simp only [Act.put, List.setIfInBounds_toArray, List.set_cons_zero, List.set_cons_succ]
  refine wpAnyH_take (i := 7) (oi := { dst := some 5, op := Go.Op.assign (Go.Operand.tmp 20), type := 4, pos := "law.go:26", after := #[{ on := 5, ground := Go.Ground.data }, { on := 6, ground := Go.Ground.chain }, { on := 0, ground := Go.Ground.phase }, { on := 1, ground := Go.Ground.phase }, { on := 2, ground := Go.Ground.phase }, { on := 3, ground := Go.Ground.phase }, { on := 4, ground := Go.Ground.phase }, { on := 5, ground := Go.Ground.phase }, { on := 6, ground := Go.Ground.phase }], guard := none }) (v := ?vq7) rfl (by kernel_rfl) (by kernel_rfl) (by kernel_rfl) (fun _ _ _ h => h) (Or.inl ⟨by rfl, ?yq7⟩) (by assumption) ?rq7
  case yq7 => (intro wq hSw; (try dsimp only at hSw); go_simp; try with_reducible rfl)
  simp only [Act.put, List.setIfInBounds_toArray, List.set_cons_zero, List.set_cons_succ]
  refine wpAnyH_done (by kernel_rfl) ?_ _
  clear hSb hS0
  have B3 := Lib.hid (B2.out.kept Q2.out); have K3 := Lib.hid (K2.out.trans Q2.out); have T3 := Lib.hid (T2.out.kept Q2.out)
  clear B2 K2 T2 Q2
  go_wp2_with (refine wpList_load_row rfl 25 _ rfl b rfl 25 _ (0, 0) _ B3.out Tryz.underlying25 rfl (by kernel_rfl) ?_)
  obtain ⟨gc, hgc⟩ := G'.out x3
  refine hgc.mono ?_
  rintro e x4 ⟨rfl, k4⟩
  have HZ4 := Lib.hid (sbox_z x4)
  have k5 := k4.trans (sbox_k x4 gc)
  have B5 := Lib.hid (B3.out.kept k5); have K5 := Lib.hid (K3.out.trans k5); have T5 := Lib.hid (T3.out.kept k5)
  clear k4 k5 B3 K3 T3 hgc
  go_upto_region 5 with (refine wpList_store_row rfl 34 _ _ rfl x4.heap.size _ rfl rfl 34 _ HZ4.out (by kernel_rfl) rfl (by simp [Value.oneCell']) ?_)
  generalize (x4.alloc (.cells (six6 six0) 34)).setRow x4.heap.size (six6 gc) = x5 at *
  clear HZ4
  refine wp_region_held_drew (S := (fun y => y.cell? ⟨b, 0, none⟩ = some (.string ⟨z.std.toArray⟩) ∧ y.cell? ⟨b, 1, none⟩ = some (.int .i64 z.off) ∧ y.cell? ⟨b, 2, none⟩ = some (.bool z.has) ∧ y.cell? ⟨b, 3, none⟩ = some (.string ⟨z.dst.toArray⟩) ∧ y.cell? ⟨b, 4, none⟩ = some (.int .i64 z.ahead) ∧ y.cell? ⟨b, 5, none⟩ = some (.int .i64 z.fr.k) ∧ y.cell? ⟨b, 6, none⟩ = some (.int .i64 z.fr.m) ∧ y.cell? ⟨b, 7, none⟩ = some (.int .i64 z.fr.w) ∧ y.cell? ⟨b, 8, none⟩ = some (.int .i64 z.fr.d) ∧ y.cell? ⟨b, 9, none⟩ = some (.int .i64 z.fr.a) ∧ y.cell? ⟨b, 10, none⟩ = some (.int .i64 z.to.k) ∧ y.cell? ⟨b, 11, none⟩ = some (.int .i64 z.to.m) ∧ y.cell? ⟨b, 12, none⟩ = some (.int .i64 z.to.w) ∧ y.cell? ⟨b, 13, none⟩ = some (.int .i64 z.to.d) ∧ y.cell? ⟨b, 14, none⟩ = some (.int .i64 z.to.a))) (by kernel_rfl) (bz_cells (B5.out.kept ((Kept.refl _).drew))) (fun hS0 => ?_)
  refine wpAnyH_take (i := 0) (oi := { dst := some 26, op := Go.Op.move (Go.Operand.tmp 3), type := 4, pos := "law.go:28", after := #[], guard := none }) (v := ?vr0) rfl (by kernel_rfl) (by kernel_rfl) (by kernel_rfl) (fun _ _ _ h => h) (Or.inl ⟨by rfl, ?yr0⟩) (by assumption) ?rr0
  case yr0 => (intro wq hSw; (try dsimp only at hSw); go_simp; try with_reducible rfl)
  simp only [Act.put, List.setIfInBounds_toArray, List.set_cons_zero, List.set_cons_succ]
  refine wpAnyH_take (i := 1) (oi := { dst := some 27, op := Go.Op.move (Go.Operand.tmp 26), type := 4, pos := "law.go:28", after := #[{ on := 0, ground := Go.Ground.data }], guard := none }) (v := ?vr1) rfl (by kernel_rfl) (by kernel_rfl) (by kernel_rfl) (fun _ _ _ h => h) (Or.inl ⟨by rfl, ?yr1⟩) (by assumption) ?rr1
  case yr1 => (intro wq hSw; (try dsimp only at hSw); go_simp; try with_reducible rfl)
  simp only [Act.put, List.setIfInBounds_toArray, List.set_cons_zero, List.set_cons_succ]
  refine wpAnyH_take (i := 2) (oi := { dst := some 28, op := Go.Op.move (Go.Operand.tmp 5), type := 4, pos := "law.go:28", after := #[{ on := 1, ground := Go.Ground.guard }], guard := some (1, true) }) (v := ?vr2) rfl (by kernel_rfl) (by kernel_rfl) (by kernel_rfl) (fun _ _ _ h => h) (Or.inl ⟨by rfl, ?yr2⟩) (by assumption) ?rr2
  case yr2 => (intro wq hSw; (try dsimp only at hSw); go_simp; try with_reducible rfl)
  simp only [Act.put, List.setIfInBounds_toArray, List.set_cons_zero, List.set_cons_succ]
  refine wpAnyH_take (i := 3) (oi := { dst := some 29, op := Go.Op.pick (Go.Operand.tmp 27) (Go.Operand.tmp 28) (Go.Operand.const (Go.Value.bool false)), type := 4, pos := "law.go:28", after := #[{ on := 1, ground := Go.Ground.data }, { on := 2, ground := Go.Ground.data }], guard := none }) (v := ?vr3) rfl (by kernel_rfl) (by kernel_rfl) (by kernel_rfl) (fun _ _ _ h => h) (Or.inl ⟨by rfl, ?yr3⟩) (by assumption) ?rr3
  case yr3 => (intro wq hSw; (try dsimp only at hSw); go_simp; try with_reducible rfl)
  simp only [Act.put, List.setIfInBounds_toArray, List.set_cons_zero, List.set_cons_succ]
  refine wpAnyH_take (i := 4) (oi := { dst := some 30, op := Go.Op.move (Go.Operand.tmp 29), type := 4, pos := "law.go:28", after := #[{ on := 3, ground := Go.Ground.data }, { on := 1, ground := Go.Ground.chain }], guard := none }) (v := ?vr4) rfl (by kernel_rfl) (by kernel_rfl) (by kernel_rfl) (fun _ _ _ h => h) (Or.inl ⟨by rfl, ?yr4⟩) (by assumption) ?rr4
  case yr4 => (intro wq hSw; (try dsimp only at hSw); go_simp; try with_reducible rfl)
  simp only [Act.put, List.setIfInBounds_toArray, List.set_cons_zero, List.set_cons_succ]
  refine wpAnyH_take (i := 5) (oi := { dst := some 31, op := Go.Op.move (Go.Operand.tmp 2), type := 3, pos := "law.go:28", after := #[{ on := 4, ground := Go.Ground.guard }], guard := some (4, true) }) (v := ?vr5) rfl (by kernel_rfl) (by kernel_rfl) (by kernel_rfl) (fun _ _ _ h => h) (Or.inl ⟨by rfl, ?yr5⟩) (by assumption) ?rr5
  case yr5 => (intro wq hSw; (try dsimp only at hSw); go_simp; try with_reducible rfl)
  simp only [Act.put, List.setIfInBounds_toArray, List.set_cons_zero, List.set_cons_succ]
  refine wpAnyH_take (i := 6) (oi := { dst := some 32, op := Go.Op.binOp Go.BinOp.eql 3 (Go.Operand.tmp 31) (Go.Operand.const (Go.Value.int Go.IntKind.i64 1711846800)) 3, type := 4, pos := "law.go:28", after := #[{ on := 5, ground := Go.Ground.data }, { on := 4, ground := Go.Ground.guard }], guard := some (4, true) }) (v := ?vr6) rfl (by kernel_rfl) (by kernel_rfl) (by kernel_rfl) (fun _ _ _ h => h) (Or.inl ⟨by rfl, ?yr6⟩) (by assumption) ?rr6
  case yr6 => (intro wq hSw; (try dsimp only at hSw); go_simp; try with_reducible rfl)
  simp only [Act.put, List.setIfInBounds_toArray, List.set_cons_zero, List.set_cons_succ]
  refine wpAnyH_take (i := 7) (oi := { dst := some 33, op := Go.Op.pick (Go.Operand.tmp 30) (Go.Operand.tmp 32) (Go.Operand.const (Go.Value.bool false)), type := 4, pos := "law.go:28", after := #[{ on := 4, ground := Go.Ground.data }, { on := 6, ground := Go.Ground.data }], guard := none }) (v := ?vr7) rfl (by kernel_rfl) (by kernel_rfl) (by kernel_rfl) (fun _ _ _ h => h) (Or.inl ⟨by rfl, ?yr7⟩) (by assumption) ?rr7
  case yr7 => (intro wq hSw; (try dsimp only at hSw); go_simp; try with_reducible rfl)
  simp only [Act.put, List.setIfInBounds_toArray, List.set_cons_zero, List.set_cons_succ]
  refine wpAnyH_take (i := 8) (oi := { dst := some 34, op := Go.Op.move (Go.Operand.tmp 33), type := 4, pos := "law.go:28", after := #[{ on := 7, ground := Go.Ground.data }, { on := 4, ground := Go.Ground.chain }], guard := none }) (v := ?vr8) rfl (by kernel_rfl) (by kernel_rfl) (by kernel_rfl) (fun _ _ _ h => h) (Or.inl ⟨by rfl, ?yr8⟩) (by assumption) ?rr8
  case yr8 => (intro wq hSw; (try dsimp only at hSw); go_simp; try with_reducible rfl)
  simp only [Act.put, List.setIfInBounds_toArray, List.set_cons_zero, List.set_cons_succ]
  refine wpAnyH_take (i := 9) (oi := { dst := some 35, op := Go.Op.move (Go.Operand.tmp 4), type := 3, pos := "law.go:28", after := #[{ on := 8, ground := Go.Ground.guard }], guard := some (8, true) }) (v := ?vr9) rfl (by kernel_rfl) (by kernel_rfl) (by kernel_rfl) (fun _ _ _ h => h) (Or.inl ⟨by rfl, ?yr9⟩) (by assumption) ?rr9
  case yr9 => (intro wq hSw; (try dsimp only at hSw); go_simp; try with_reducible rfl)
  simp only [Act.put, List.setIfInBounds_toArray, List.set_cons_zero, List.set_cons_succ]
  refine wpAnyH_take (i := 10) (oi := { dst := some 36, op := Go.Op.binOp Go.BinOp.eql 3 (Go.Operand.tmp 35) (Go.Operand.const (Go.Value.int Go.IntKind.i64 1729989000)) 3, type := 4, pos := "law.go:28", after := #[{ on := 9, ground := Go.Ground.data }, { on := 8, ground := Go.Ground.guard }], guard := some (8, true) }) (v := ?vr10) rfl (by kernel_rfl) (by kernel_rfl) (by kernel_rfl) (fun _ _ _ h => h) (Or.inl ⟨by rfl, ?yr10⟩) (by assumption) ?rr10
  case yr10 => (intro wq hSw; (try dsimp only at hSw); go_simp; try with_reducible rfl)
  simp only [Act.put, List.setIfInBounds_toArray, List.set_cons_zero, List.set_cons_succ]
  refine wpAnyH_take (i := 11) (oi := { dst := some 37, op := Go.Op.pick (Go.Operand.tmp 34) (Go.Operand.tmp 36) (Go.Operand.const (Go.Value.bool false)), type := 4, pos := "law.go:28", after := #[{ on := 8, ground := Go.Ground.data }, { on := 10, ground := Go.Ground.data }], guard := none }) (v := ?vr11) rfl (by kernel_rfl) (by kernel_rfl) (by kernel_rfl) (fun _ _ _ h => h) (Or.inl ⟨by rfl, ?yr11⟩) (by assumption) ?rr11
  case yr11 => (intro wq hSw; (try dsimp only at hSw); go_simp; try with_reducible rfl)
  simp only [Act.put, List.setIfInBounds_toArray, List.set_cons_zero, List.set_cons_succ]
  refine wpAnyH_take (i := 12) (oi := { dst := some 38, op := Go.Op.move (Go.Operand.tmp 37), type := 4, pos := "law.go:28", after := #[{ on := 11, ground := Go.Ground.data }, { on := 8, ground := Go.Ground.chain }], guard := none }) (v := ?vr12) rfl (by kernel_rfl) (by kernel_rfl) (by kernel_rfl) (fun _ _ _ h => h) (Or.inl ⟨by rfl, ?yr12⟩) (by assumption) ?rr12
  case yr12 => (intro wq hSw; (try dsimp only at hSw); go_simp; try with_reducible rfl)
  simp only [Act.put, List.setIfInBounds_toArray, List.set_cons_zero, List.set_cons_succ]
  refine wpAnyH_take (i := 13) (oi := { dst := some 39, op := Go.Op.move (Go.Operand.tmp 6), type := 3, pos := "law.go:28", after := #[{ on := 12, ground := Go.Ground.guard }], guard := some (12, true) }) (v := ?vr13) rfl (by kernel_rfl) (by kernel_rfl) (by kernel_rfl) (fun _ _ _ h => h) (Or.inl ⟨by rfl, ?yr13⟩) (by assumption) ?rr13
  case yr13 => (intro wq hSw; (try dsimp only at hSw); go_simp; try with_reducible rfl)
  simp only [Act.put, List.setIfInBounds_toArray, List.set_cons_zero, List.set_cons_succ]
  refine wpAnyH_take (i := 14) (oi := { dst := some 40, op := Go.Op.binOp Go.BinOp.eql 3 (Go.Operand.tmp 39) (Go.Operand.const (Go.Value.int Go.IntKind.i64 3600)) 3, type := 4, pos := "law.go:28", after := #[{ on := 13, ground := Go.Ground.data }, { on := 12, ground := Go.Ground.guard }], guard := some (12, true) }) (v := ?vr14) rfl (by kernel_rfl) (by kernel_rfl) (by kernel_rfl) (fun _ _ _ h => h) (Or.inl ⟨by rfl, ?yr14⟩) (by assumption) ?rr14
  case yr14 => (intro wq hSw; (try dsimp only at hSw); go_simp; try with_reducible rfl)
  simp only [Act.put, List.setIfInBounds_toArray, List.set_cons_zero, List.set_cons_succ]
  refine wpAnyH_take (i := 15) (oi := { dst := some 41, op := Go.Op.pick (Go.Operand.tmp 38) (Go.Operand.tmp 40) (Go.Operand.const (Go.Value.bool false)), type := 4, pos := "law.go:28", after := #[{ on := 12, ground := Go.Ground.data }, { on := 14, ground := Go.Ground.data }], guard := none }) (v := ?vr15) rfl (by kernel_rfl) (by kernel_rfl) (by kernel_rfl) (fun _ _ _ h => h) (Or.inl ⟨by rfl, ?yr15⟩) (by assumption) ?rr15
  case yr15 => (intro wq hSw; (try dsimp only at hSw); go_simp; try with_reducible rfl)
  simp only [Act.put, List.setIfInBounds_toArray, List.set_cons_zero, List.set_cons_succ]
  refine wpAnyH_take (i := 16) (oi := { dst := some 42, op := Go.Op.move (Go.Operand.tmp 41), type := 4, pos := "law.go:28", after := #[{ on := 15, ground := Go.Ground.data }, { on := 12, ground := Go.Ground.chain }], guard := none }) (v := ?vr16) rfl (by kernel_rfl) (by kernel_rfl) (by kernel_rfl) (fun _ _ _ h => h) (Or.inl ⟨by rfl, ?yr16⟩) (by assumption) ?rr16
  case yr16 => (intro wq hSw; (try dsimp only at hSw); go_simp; try with_reducible rfl)
  simp only [Act.put, List.setIfInBounds_toArray, List.set_cons_zero, List.set_cons_succ]
  refine wpAnyH_take (i := 17) (oi := { dst := some 43, op := Go.Op.load 25 (Go.Operand.tmp 1), type := 25, pos := "law.go:28", after := #[{ on := 16, ground := Go.Ground.guard }], guard := some (16, true) }) (v := ?vr17) rfl (by kernel_rfl) (by kernel_rfl) (by kernel_rfl) (fun _ _ _ h => h) (Or.inl ⟨by rfl, ?yr17⟩) (by assumption) ?rr17
  case yr17 => (intro wq hSw; (try dsimp only at hSw); go_simp; try with_reducible rfl)
  simp only [Act.put, List.setIfInBounds_toArray, List.set_cons_zero, List.set_cons_succ]
  refine wpAnyH_take (i := 19) (oi := { dst := some 45, op := Go.Op.move (Go.Operand.tmp 2), type := 3, pos := "law.go:28", after := #[{ on := 16, ground := Go.Ground.guard }], guard := some (16, true) }) (v := ?vr19) rfl (by kernel_rfl) (by kernel_rfl) (by kernel_rfl) (fun _ _ _ h => h) (Or.inl ⟨by rfl, ?yr19⟩) (by assumption) ?rr19
  case yr19 => (intro wq hSw; (try dsimp only at hSw); go_simp; try with_reducible rfl)
  simp only [Act.put, List.setIfInBounds_toArray, List.set_cons_zero, List.set_cons_succ]
  refine wpAnyH_ready (rs := [18]) (by kernel_rfl) (by simp) (AllReadyH.cons (o := { dst := some 44, op := Go.Op.call { callee := Go.Callee.value (Go.Operand.func 24), args := #[], argTypes := #[] }, type := 30, pos := "law.go:28", after := #[{ on := 16, ground := Go.Ground.chain }, { on := 16, ground := Go.Ground.guard }], guard := some (16, true) }) rfl (fun K hK => ?_) AllReadyH.nil)
  go_simp
  have KD := Lib.hid ((Kept.refl x5).drew)
  have szd := (K5.out.trans KD.out).size
  go_at_call 24; refine (half_any w.heap.size _ (T5.out.kept KD.out) szd).mono ?_
  rintro e y1 ⟨sl, c, hc, rfl, hcr, q1⟩
  have Q1 := Lib.hid (KD.out.trans q1); have HC := Lib.hid hc; have CR := Lib.hid hcr
  clear hc hcr q1 szd
  refine Shut.out hK _ _ (bz_cells (B5.out.kept Q1.out)) (fun hSb => ?_)
  clear hK K
  try simp only [Act.put, List.setIfInBounds_toArray, List.set_cons_zero, List.set_cons_succ]
  refine wpAnyH_ready (rs := [20]) (by kernel_rfl) (by simp) (AllReadyH.cons (o := { dst := some 46, op := Go.Op.call { callee := Go.Callee.value (Go.Operand.func 15), args := #[Go.Operand.tmp 43, Go.Operand.tmp 44, Go.Operand.tmp 45], argTypes := #[25, 30, 3] }, type := 4, pos := "law.go:28", after := #[{ on := 17, ground := Go.Ground.data }, { on := 18, ground := Go.Ground.data }, { on := 19, ground := Go.Ground.data }, { on := 18, ground := Go.Ground.chain }, { on := 16, ground := Go.Ground.guard }], guard := some (16, true) }) rfl (fun K hK => ?_) AllReadyH.nil)
  go_simp
  go_at_call 15; refine (F'.out c sl _ HC.out CR.out).mono ?_
  rintro e x6 ⟨rfl, q2⟩
  have Q2 := Lib.hid (K5.out.trans (Q1.out.trans q2)); have Q3 := Lib.hid (Q1.out.trans q2)
  refine Shut.out hK _ _ (bz_cells (B5.out.kept Q3.out)) (fun hSb => ?_)
  clear hK K
  try simp only [Act.put, List.setIfInBounds_toArray, List.set_cons_zero, List.set_cons_succ]
  refine wpAnyH_take (i := 21) (oi := { dst := some 47, op := Go.Op.pick (Go.Operand.tmp 42) (Go.Operand.tmp 46) (Go.Operand.const (Go.Value.bool false)), type := 4, pos := "law.go:28", after := #[{ on := 16, ground := Go.Ground.data }, { on := 20, ground := Go.Ground.data }], guard := none }) (v := ?vr21) rfl (by kernel_rfl) (by kernel_rfl) (by kernel_rfl) (fun _ _ _ h => h) (Or.inl ⟨by rfl, ?yr21⟩) (by assumption) ?rr21
  case yr21 => (intro wq hSw; (try dsimp only at hSw); go_simp; try with_reducible rfl)
  simp only [Act.put, List.setIfInBounds_toArray, List.set_cons_zero, List.set_cons_succ]
  refine wpAnyH_take (i := 22) (oi := { dst := some 0, op := Go.Op.assign (Go.Operand.tmp 47), type := 4, pos := "law.go:28", after := #[{ on := 21, ground := Go.Ground.data }, { on := 20, ground := Go.Ground.chain }, { on := 0, ground := Go.Ground.phase }, { on := 1, ground := Go.Ground.phase }, { on := 2, ground := Go.Ground.phase }, { on := 3, ground := Go.Ground.phase }, { on := 4, ground := Go.Ground.phase }, { on := 5, ground := Go.Ground.phase }, { on := 6, ground := Go.Ground.phase }, { on := 7, ground := Go.Ground.phase }, { on := 8, ground := Go.Ground.phase }, { on := 9, ground := Go.Ground.phase }, { on := 10, ground := Go.Ground.phase }, { on := 11, ground := Go.Ground.phase }, { on := 12, ground := Go.Ground.phase }, { on := 13, ground := Go.Ground.phase }, { on := 14, ground := Go.Ground.phase }, { on := 15, ground := Go.Ground.phase }, { on := 16, ground := Go.Ground.phase }, { on := 17, ground := Go.Ground.phase }, { on := 18, ground := Go.Ground.phase }, { on := 19, ground := Go.Ground.phase }, { on := 20, ground := Go.Ground.phase }, { on := 21, ground := Go.Ground.phase }], guard := none }) (v := ?vr22) rfl (by kernel_rfl) (by kernel_rfl) (by kernel_rfl) (fun _ _ _ h => h) (Or.inl ⟨by rfl, ?yr22⟩) (by assumption) ?rr22
  case yr22 => (intro wq hSw; (try dsimp only at hSw); go_simp; try with_reducible rfl)
  simp only [Act.put, List.setIfInBounds_toArray, List.set_cons_zero]
  refine wpAnyH_done (by kernel_rfl) ?_ _
  clear hSb hS0
  go_wp2
  go_ret
  exact ⟨rfl, Q2.out⟩
end Go.Proofs.YtilgamjahediiaaGreatDoor
