/- The chapter's example: what every law asks first. -/
import Derived.Test.YtcgmefojokndhaaLcRefG
namespace Go.Proofs.Ytcgmefojokndhaa
open Go.ChangeShapes Go.WideShapes Go.ChangeAt Go.RowKit
open Civ Zn Lc
def zA : Zo := ⟨[67, 69, 84], 3600, true, [67, 69, 83, 84], 7200, ⟨2, 3, 5, 0, 7200⟩, ⟨2, 10, 5, 0, 10800⟩⟩
theorem may_A : mayZ zA = true := by decide
theorem from_A : fromT zA 2023 = 1679792400 ∧ fromT zA 2024 = 1711846800 ∧ fromT zA 2025 = 1743296400 := by decide +kernel
theorem upto_A : uptoT zA 2023 = 1698541200 ∧ uptoT zA 2024 = 1729990800 ∧ uptoT zA 2025 = 1761440400 := by decide +kernel
theorem sec_A : sec 2024 10 27 2 30 0 = 1729996200 ∧ sec 2024 3 31 2 30 0 = 1711852200 := by decide +kernel
theorem yr_A : yr 20023 = 2024 ∧ yr 19813 = 2024 :=
  ⟨(ymd_of (n := 20023) (y := 2024) (m := 10) (d := 27) (by unfold okP; decide +kernel) (by decide +kernel)).1, (ymd_of (n := 19813) (y := 2024) (m := 3) (d := 31) (by unfold okP; decide +kernel) (by decide +kernel)).1⟩
theorem offP_A {t : Int} (h : yr (t / 86400) = 2024) : offP zA t = if (if 1761440400 ≤ t then 1761440400 else if 1729990800 ≤ t then 1729990800 else if 1698541200 ≤ t then 1698541200 else uptoT zA 2022) < (if 1743296400 ≤ t then 1743296400 else if 1711846800 ≤ t then 1711846800 else if 1679792400 ≤ t then 1679792400 else fromT zA 2022) then 7200 else 3600 := by
  unfold offP offY lst
  rw [h]
  simp only [show (2024 : Int) + 1 = 2025 by decide, show (2024 : Int) - 1 = 2023 by decide, show (2024 : Int) - 2 = 2022 by decide, from_A.1, from_A.2.1, from_A.2.2, upto_A.1, upto_A.2.1, upto_A.2.2, show zA.has = true from rfl, if_true]
  rfl
theorem of_A : ofL zA 1729996200 = [1729989000, 1729992600] ∧ ofL zA 1711852200 = [] := by
  have o : offsL zA = [7200, 3600] := by decide
  have a1 : offP zA 1729989000 = 7200 := by rw [offP_A (by rw [show (1729989000 : Int) / 86400 = 20023 by decide]; exact yr_A.1)]; decide +kernel
  have a2 : offP zA 1729992600 = 3600 := by rw [offP_A (by rw [show (1729992600 : Int) / 86400 = 20023 by decide]; exact yr_A.1)]; decide +kernel
  have a3 : offP zA 1711845000 = 3600 := by rw [offP_A (by rw [show (1711845000 : Int) / 86400 = 19813 by decide]; exact yr_A.2)]; decide +kernel
  have a4 : offP zA 1711848600 = 7200 := by rw [offP_A (by rw [show (1711848600 : Int) / 86400 = 19813 by decide]; exact yr_A.2)]; decide +kernel
  unfold ofL
  rw [o]
  simp only [List.flatMap_cons, List.flatMap_nil, pick]
  simp [a1, a2, a3, a4, scB]
theorem Out.slice {B : Nat} {v : Value} {l : List Int} {x : World} (h : Out B v l x) : ∃ ao cap, v = .slice ao l.length cap := by
  rcases h.2 with ⟨h1, h2⟩ | ⟨g, cap, _, h1, _⟩
  · exact ⟨none, 0, by rw [h1, h2]⟩
  · exact ⟨_, _, h1⟩
theorem someA (w : World) : Calls Try.prog 30 #[] w fun e w' => e = .returned (zoV zA) ∧ Kept w w' := some_any w
theorem turns_A (w : World) : Calls Try.prog 13 #[zoV zA, .int .i64 2024] w fun e w' => e = .returned (.tuple #[.int .i64 1711846800, .int .i64 1729990800, .int .i64 0]) ∧ Kept w w' := by
  have h := turns_yes zA 2024 w (by decide) may_A rfl
  rw [from_A.2.1, upto_A.2.1] at h
  exact h
theorem ofA_1 (w : World) : Calls Try.prog 19 #[zoV zA, civ 2024 10 27 2 30 0] w (OfPost [1729989000, 1729992600] w) := by
  have h := lof_yes zA 2024 10 27 2 30 0 w may_A (by unfold okP; decide +kernel) (by decide) (by omega) (by omega)
  rw [sec_A.1, of_A.1] at h
  exact h
theorem ofA_2 (w : World) : Calls Try.prog 19 #[zoV zA, civ 2024 3 31 2 30 0] w (OfPost [] w) := by
  have h := lof_yes zA 2024 3 31 2 30 0 w may_A (by unfold okP; decide +kernel) (by decide) (by omega) (by omega)
  rw [sec_A.2, of_A.2] at h
  exact h
set_option maxRecDepth 100000 in
set_option maxHeartbeats 4000000 in
theorem awake_yes (w : World) : Calls Try.prog 9 #[] w fun e w' => e = .returned (.bool true) ∧ Kept w w' := by
  obtain ⟨z, T, O1, O2, S⟩ : ∃ z : Zo, (∀ w : World, Calls Try.prog 13 #[zoV z, .int .i64 2024] w fun e w' => e = .returned (.tuple #[.int .i64 1711846800, .int .i64 1729990800, .int .i64 0]) ∧ Kept w w') ∧
      (∀ w : World, Calls Try.prog 19 #[zoV z, civ 2024 10 27 2 30 0] w (OfPost [1729989000, 1729992600] w)) ∧ (∀ w : World, Calls Try.prog 19 #[zoV z, civ 2024 3 31 2 30 0] w (OfPost [] w)) ∧ (∀ w : World, Calls Try.prog 30 #[] w fun e w' => e = .returned (zoV z) ∧ Kept w w') :=
    ⟨zA, turns_A, ofA_1, ofA_2, someA⟩
  have T' := Lib.hid T; have P1 := Lib.hid O1; have P2 := Lib.hid O2; have S' := Lib.hid S
  clear T O1 O2 S
  go_enter Try.func9, Try.ntmps9
  go_wp2_with fail
  refine (S'.out _).mono ?_
  rintro e w1 ⟨rfl, k1⟩
  have B1 := Lib.hid (bz_new w1 z)
  have K1 := Lib.hid (k1.trans ((Kept.refl w1).alloc (.cells (zo15 z.std z.off z.has z.dst z.ahead z.fr.k z.fr.m z.fr.w z.fr.d z.fr.a z.to.k z.to.m z.to.w z.to.d z.to.a) 25)))
  go_wp2_with fail
  generalize w1.alloc (.cells (zo15 z.std z.off z.has z.dst z.ahead z.fr.k z.fr.m z.fr.w z.fr.d z.fr.a z.to.k z.to.m z.to.w z.to.d z.to.a) 25) = x1 at *
  generalize w1.heap.size = b at *
  refine (T'.out _).mono ?_
  rintro e w2 ⟨rfl, k2⟩
  have B2 := Lib.hid (B1.out.kept k2)
  have K2 := Lib.hid (K1.out.trans k2)
  clear B1 K1 k1 k2
  have c0 := B2.out.cs.c0
  have c1 := B2.out.cs.c1
  have c2 := B2.out.cs.c2
  have c3 := B2.out.cs.c3
  have c4 := B2.out.cs.c4
  have c5 := B2.out.cs.c5
  have c6 := B2.out.cs.c6
  have c7 := B2.out.cs.c7
  have c8 := B2.out.cs.c8
  have c9 := B2.out.cs.c9
  have c10 := B2.out.cs.c10
  have c11 := B2.out.cs.c11
  have c12 := B2.out.cs.c12
  have c13 := B2.out.cs.c13
  have c14 := B2.out.cs.c14
  go_wp2_with fail
  refine (P1.out _).mono ?_
  rintro e w3 ⟨v, rfl, hv, k3⟩
  obtain ⟨a1, cap1, rfl⟩ := hv.slice
  clear hv c0 c1 c2 c3 c4 c5 c6 c7 c8 c9 c10 c11 c12 c13 c14
  have B3 := Lib.hid (B2.out.kept k3)
  have K3 := Lib.hid (K2.out.trans k3)
  clear B2 K2 k3
  have c0 := B3.out.cs.c0
  have c1 := B3.out.cs.c1
  have c2 := B3.out.cs.c2
  have c3 := B3.out.cs.c3
  have c4 := B3.out.cs.c4
  have c5 := B3.out.cs.c5
  have c6 := B3.out.cs.c6
  have c7 := B3.out.cs.c7
  have c8 := B3.out.cs.c8
  have c9 := B3.out.cs.c9
  have c10 := B3.out.cs.c10
  have c11 := B3.out.cs.c11
  have c12 := B3.out.cs.c12
  have c13 := B3.out.cs.c13
  have c14 := B3.out.cs.c14
  go_wp2_with fail
  refine (P2.out _).mono ?_
  rintro e w4 ⟨v, rfl, hv, k4⟩
  obtain ⟨a2, cap2, rfl⟩ := hv.slice
  clear hv c0 c1 c2 c3 c4 c5 c6 c7 c8 c9 c10 c11 c12 c13 c14
  have K4 := Lib.hid (K3.out.trans k4)
  clear B3 K3 k4
  go_wp2
  go_ret
  exact ⟨rfl, K4.out⟩
end Go.Proofs.Ytcgmefojokndhaa
