/- The law FireFirst, walked (given the contracts of package fire). -/
import Derived.Test.YtilgamjahediiaaGreatDoorFrA
import Derived.Test.YtilgamjahediiaaGreatDoorFrP
set_option linter.unusedVariables false
namespace Go.Proofs.YtilgamjahediiaaGreatDoor
open Go.ChangeShapes Go.WideShapes Go.ChangeAt Go.RowKit
open Civ Zn Lc Crn
set_option maxRecDepth 100000 in
set_option maxHeartbeats 4000000 in
theorem first6_walk (hG : GapC) (hF : FiresC) (hN : NextC) (z : Zo) (c : CR) (sl : Nat → Value) (a b : Int) (v : Value) (l : List Int) (w : World) (h1 : z.std.length ≤ maxLen) (h2 : z.dst.length ≤ maxLen) (hc : Cr w sl c.L) (_ : -9223372036854775808 ≤ a) (_ : a ≤ 9223372036854775807) (_ : -9223372036854775808 ≤ b) (_ : b ≤ 9223372036854775807) (hv : Rs w v l) (htab : Tab w) : Calls Tryz.prog 5 #[zoV z, crV sl c.st, .int .i64 a, .int .i64 b, v] w fun e w' => e = .returned (.bool true) ∧ Kept w w' := by
  have hlen := hv.len
  unfold maxLen at hlen
  obtain ⟨ad, cap, rfl⟩ := hv.slice
  have k0 := (Kept.refl w).alloc (.cells (zo15 z.std z.off z.has z.dst z.ahead z.fr.k z.fr.m z.fr.w z.fr.d z.fr.a z.to.k z.to.m z.to.w z.to.d z.to.a) 25)
  have b0 := bz_new w z
  have T0 := Tb.start htab
  have HG := Lib.hid hG; have HF := Lib.hid hF; have HN := Lib.hid hN
  clear hG hF hN htab
  go_enter Tryz.func5, Tryz.ntmps5
  go_upto_region 1 with (fail)
  generalize hx : w.alloc (.cells (zo15 z.std z.off z.has z.dst z.ahead z.fr.k z.fr.m z.fr.w z.fr.d z.fr.a z.to.k z.to.m z.to.w z.to.d z.to.a) 25) = x at *
  have s1 : x.heap.size = w.heap.size + 1 := by rw [← hx]; simp
  clear hx
  have c1 : Cb (w.heap.size + 1) sl c.st (x.alloc (.cells (cr10 sl c.st) 30)) := by rw [← s1]; exact Cb.new sl c.st x
  have k1 := (Kept.refl x).alloc (.cells (cr10 sl c.st) 30)
  generalize x.alloc (.cells (cr10 sl c.st) 30) = x1 at *
  have kk := k0.trans k1
  have Z1 := Lib.hid (b0.kept k1); have B1 := Lib.hid c1; have K1 := Lib.hid kk; have C1 := Lib.hid (hc.kept kk); have V1 := Lib.hid (hv.kept kk); have T1 := Lib.hid (T0.kept kk)
  clear b0 k0 k1 kk c1 s1 hc hv T0
  go_wp2_with fail
  refine (awake6_any HG.out HF.out HN.out _ T1.out.tab).mono ?_
  rintro e x2 ⟨rfl, k2⟩
  have Z2 := Lib.hid (Z1.out.kept k2); have B2 := Lib.hid (B1.out.kept k2); have C2 := Lib.hid (C1.out.kept k2); have V2 := Lib.hid (V1.out.kept k2); have K2 := Lib.hid (K1.out.trans k2)
  clear k2 Z1 B1 C1 V1 K1
  clear T1
  go_wp2_with (first | refine wpList_load_row rfl 25 _ rfl w.heap.size rfl 25 _ (0, 0) _ Z2.out Tryz.underlying25 rfl (by kernel_rfl) ?_ | refine wpList_load_row rfl 30 _ rfl (w.heap.size + 1) rfl 30 _ (0, 0) _ B2.out Tryz.underlying30 rfl (by kernel_rfl) ?_)
  refine (few6_any z c sl _ C2.out h1 h2).mono ?_
  rintro e x3 ⟨rfl, k3⟩
  have Z3 := Lib.hid (Z2.out.kept k3); have B3 := Lib.hid (B2.out.kept k3); have C3 := Lib.hid (C2.out.kept k3); have V3 := Lib.hid (V2.out.kept k3); have K3 := Lib.hid (K2.out.trans k3)
  clear k3 Z2 B2 C2 V2 K2
  generalize (shB z && decide (FewP c)) = few at *
  cases few with
  | false =>
    go_wp2
    go_ret
    exact ⟨rfl, K3.out⟩
  | true =>
    by_cases g0 : a < 0
    · go_wp2
      go_ret
      exact ⟨rfl, K3.out⟩
    by_cases g1 : 253402300799 < a
    · go_wp2
      go_ret
      exact ⟨rfl, K3.out⟩
    by_cases g2 : b < a
    · go_wp2
      go_ret
      exact ⟨rfl, K3.out⟩
    by_cases g3 : 3456000 < b - a
    · go_wp2
      go_ret
      exact ⟨rfl, K3.out⟩
    by_cases g4 : (20 : Int) < (l.length : Int)
    · go_wp2
      go_ret
      exact ⟨rfl, K3.out⟩
    go_wp2_with (first | refine wpList_load_row rfl 25 _ rfl w.heap.size rfl 25 _ (0, 0) _ Z3.out Tryz.underlying25 rfl (by kernel_rfl) ?_ | refine wpList_load_row rfl 30 _ rfl (w.heap.size + 1) rfl 30 _ (0, 0) _ B3.out Tryz.underlying30 rfl (by kernel_rfl) ?_)
    refine (HN.out z c sl a b _ (by omega) (by omega) (by omega) (by omega) C3.out).mono ?_
    rintro e x4 ⟨rfl, k4⟩
    have Z4 := Lib.hid (Z3.out.kept k4); have B4 := Lib.hid (B3.out.kept k4); have C4 := Lib.hid (C3.out.kept k4); have V4 := Lib.hid (V3.out.kept k4); have K4 := Lib.hid (K3.out.trans k4)
    clear k4 Z3 B3 C3 V3 K3
    cases ho : nxP z c a b with
    | none =>
      have HFA := Lib.hid (fun u (u1 : a < u) (u2 : u < b + 1) => nxP_none (by omega) (by omega) ho u u1 (by omega))
      have HNX := Lib.hid (fun u (u1 : a < u) (u2 : u < b + 1) => nxP_from_none (by omega) (by omega) ho (show a ≤ u by omega))
      clear ho
      go_wp2_with fail
      generalize hW : x4 = W at *
      clear hW
      go_loopw [15, 16, 17, 18] (fun i _ _ _ y => Kept W y ∧ ∃ k : Nat, k ≤ l.length ∧ i = .int .i64 k) (fun i _ _ _ _ => l.length - (intOf i).toNat)
      case atStart => exact ⟨Kept.refl _, 0, by omega, rfl⟩
      case round =>
        obtain ⟨hk, k, hkl, rfl⟩ := hrel
        have HK := Lib.hid hk; clear hk
        by_cases hlt : k < l.length
        case neg =>
          go_wp2
          go_ret
          exact ⟨rfl, K4.out.trans HK.out⟩
        have hlti : (k : Int) < (l.length : Int) := by omega
        obtain ⟨lb, lo, cp, hse, hlb, hcell⟩ := V4.out.at hlt
        simp only [Value.slice.injEq] at hse
        obtain ⟨rfl, -, -⟩ := hse
        obtain ⟨u, hu⟩ : ∃ u, l[k]? = some u := ⟨_, List.getElem?_eq_getElem hlt⟩
        have hcu := hcell k u hu
        have LU := Lib.hid (lt_cell hcu)
        have hcw : wr.cell? ⟨lb, lo + k, none⟩ = some (.int .i64 u) := (HK.out.cell (a := ⟨lb, lo + k, none⟩) LU.out).trans hcu
        clear hcell hcu hu LU hlb
        by_cases n0 : u < 0
        · go_wp2
          go_ret
          exact ⟨rfl, K4.out.trans HK.out⟩
        by_cases n1 : 3456000 < u
        · go_wp2
          go_ret
          exact ⟨rfl, K4.out.trans HK.out⟩
        have Z5 := Lib.hid (Z4.out.kept HK.out); have B5 := Lib.hid (B4.out.kept HK.out); have C5 := Lib.hid (C4.out.kept HK.out)
        by_cases n2 : a + 1 + u < b + 1
        case neg =>
          go_wp2
          go_roundw
          case rel => exact ⟨HK.out, k + 1, hlt, by go_num⟩
          case measure => simp [intOf]; omega
        have HFu := Lib.hid (show ∀ x, Cr x sl c.L → Calls Tryz.prog 15 #[zoV z, crV sl c.st, .int .i64 (a + 1 + u)] x fun e x' => e = .returned (.bool false) ∧ Kept x x' from fun x hx => by have q := HF.out z c sl (a + 1 + u) x (by omega) (by omega) hx; rw [HFA.out (a + 1 + u) (by omega) (by omega)] at q; exact q)
        have HNu := Lib.hid (show ∀ x, Cr x sl c.L → Calls Tryz.prog 16 #[zoV z, crV sl c.st, .int .i64 (a + 1 + u), .int .i64 b] x fun e x' => e = .returned (.tuple #[.int .i64 (0), .bool false]) ∧ Kept x x' from fun x hx => by have q := HN.out z c sl (a + 1 + u) b x (by omega) (by omega) (by omega) (by omega) hx; rw [HNX.out (a + 1 + u) (by omega) (by omega)] at q; exact q)
        obtain ⟨e0, e1, e2, e3, e4, e5, e6, e7, e8, e9⟩ := cells10 B5.out
        obtain ⟨d0, d1, d2, d3, d4, d5, d6, d7, d8, d9, d10, d11, d12, d13, d14⟩ := bz_cells Z5.out
        go_wp2_with fail
        refine (HFu.out _ C5.out).mono ?_
        rintro e y ⟨rfl, ky⟩
        clear e0 e1 e2 e3 e4 e5 e6 e7 e8 e9 d0 d1 d2 d3 d4 d5 d6 d7 d8 d9 d10 d11 d12 d13 d14 hcw
        have KY := Lib.hid ky; clear ky
        have Z6 := Lib.hid (Z5.out.kept KY.out); have B6 := Lib.hid (B5.out.kept KY.out); have C6 := Lib.hid (C5.out.kept KY.out)
        by_cases n3 : (k : Int) < 2
        case neg =>
          go_wp2
          go_roundw
          case rel => exact ⟨HK.out.trans KY.out, k + 1, hlt, by go_num⟩
          case measure => simp [intOf]; omega
        go_wp2_with (first | refine wpList_load_row rfl 25 _ rfl w.heap.size rfl 25 _ (0, 0) _ Z6.out Tryz.underlying25 rfl (by kernel_rfl) ?_ | refine wpList_load_row rfl 30 _ rfl (w.heap.size + 1) rfl 30 _ (0, 0) _ B6.out Tryz.underlying30 rfl (by kernel_rfl) ?_)
        refine (HNu.out _ C6.out).mono ?_
        rintro e y2 ⟨rfl, ky2⟩
        have KY2 := Lib.hid (KY.out.trans ky2)
        clear ky2
        go_wp2
        go_roundw
        case rel => exact ⟨HK.out.trans KY2.out, k + 1, hlt, by go_num⟩
        case measure => simp [intOf]; omega
    | some r =>
      obtain ⟨-, r1, r2, r3, r4⟩ := nxP_some ho
      have HFA := Lib.hid (fun u (u1 : a < u) (u2 : u < r) => r4 u u1 u2)
      have HNX := Lib.hid (fun u (u1 : a < u) (u2 : u < r) => nxP_from ho (show a ≤ u by omega) u2)
      have HFr := Lib.hid (show ∀ x, Cr x sl c.L → Calls Tryz.prog 15 #[zoV z, crV sl c.st, .int .i64 r] x fun e x' => e = .returned (.bool true) ∧ Kept x x' from fun x hx => by have q := HF.out z c sl r x (by omega) (by omega) hx; rw [r3] at q; exact q)
      clear ho r3 r4
      obtain ⟨e0, e1, e2, e3, e4, e5, e6, e7, e8, e9⟩ := cells10 B4.out
      obtain ⟨d0, d1, d2, d3, d4, d5, d6, d7, d8, d9, d10, d11, d12, d13, d14⟩ := bz_cells Z4.out
      go_wp2_with fail
      refine (HFr.out _ C4.out).mono ?_
      rintro e x5 ⟨rfl, k5⟩
      clear e0 e1 e2 e3 e4 e5 e6 e7 e8 e9 d0 d1 d2 d3 d4 d5 d6 d7 d8 d9 d10 d11 d12 d13 d14
      have Z5 := Lib.hid (Z4.out.kept k5); have B5 := Lib.hid (B4.out.kept k5); have C5 := Lib.hid (C4.out.kept k5); have V5 := Lib.hid (V4.out.kept k5); have K5 := Lib.hid (K4.out.trans k5)
      clear k5 Z4 B4 C4 V4 K4
      go_wp2_with fail
      generalize hW : x5 = W at *
      clear hW
      go_loopw [15, 16, 17, 18] (fun i _ _ _ y => Kept W y ∧ ∃ k : Nat, k ≤ l.length ∧ i = .int .i64 k) (fun i _ _ _ _ => l.length - (intOf i).toNat)
      case atStart => exact ⟨Kept.refl _, 0, by omega, rfl⟩
      case round =>
        obtain ⟨hk, k, hkl, rfl⟩ := hrel
        have HK := Lib.hid hk; clear hk
        by_cases hlt : k < l.length
        case neg =>
          go_wp2
          go_ret
          exact ⟨rfl, K5.out.trans HK.out⟩
        have hlti : (k : Int) < (l.length : Int) := by omega
        obtain ⟨lb, lo, cp, hse, hlb, hcell⟩ := V5.out.at hlt
        simp only [Value.slice.injEq] at hse
        obtain ⟨rfl, -, -⟩ := hse
        obtain ⟨u, hu⟩ : ∃ u, l[k]? = some u := ⟨_, List.getElem?_eq_getElem hlt⟩
        have hcu := hcell k u hu
        have LU := Lib.hid (lt_cell hcu)
        have hcw : wr.cell? ⟨lb, lo + k, none⟩ = some (.int .i64 u) := (HK.out.cell (a := ⟨lb, lo + k, none⟩) LU.out).trans hcu
        clear hcell hcu hu LU hlb
        by_cases n0 : u < 0
        · go_wp2
          go_ret
          exact ⟨rfl, K5.out.trans HK.out⟩
        by_cases n1 : 3456000 < u
        · go_wp2
          go_ret
          exact ⟨rfl, K5.out.trans HK.out⟩
        have Z6 := Lib.hid (Z5.out.kept HK.out); have B6 := Lib.hid (B5.out.kept HK.out); have C6 := Lib.hid (C5.out.kept HK.out)
        by_cases n2 : a + 1 + u < r
        case neg =>
          go_wp2
          go_roundw
          case rel => exact ⟨HK.out, k + 1, hlt, by go_num⟩
          case measure => simp [intOf]; omega
        have HFu := Lib.hid (show ∀ x, Cr x sl c.L → Calls Tryz.prog 15 #[zoV z, crV sl c.st, .int .i64 (a + 1 + u)] x fun e x' => e = .returned (.bool false) ∧ Kept x x' from fun x hx => by have q := HF.out z c sl (a + 1 + u) x (by omega) (by omega) hx; rw [HFA.out (a + 1 + u) (by omega) (by omega)] at q; exact q)
        have HNu := Lib.hid (show ∀ x, Cr x sl c.L → Calls Tryz.prog 16 #[zoV z, crV sl c.st, .int .i64 (a + 1 + u), .int .i64 b] x fun e x' => e = .returned (.tuple #[.int .i64 (r), .bool true]) ∧ Kept x x' from fun x hx => by have q := HN.out z c sl (a + 1 + u) b x (by omega) (by omega) (by omega) (by omega) hx; rw [HNX.out (a + 1 + u) (by omega) (by omega)] at q; exact q)
        obtain ⟨e0, e1, e2, e3, e4, e5, e6, e7, e8, e9⟩ := cells10 B6.out
        obtain ⟨d0, d1, d2, d3, d4, d5, d6, d7, d8, d9, d10, d11, d12, d13, d14⟩ := bz_cells Z6.out
        go_wp2_with fail
        refine (HFu.out _ C6.out).mono ?_
        rintro e y ⟨rfl, ky⟩
        clear e0 e1 e2 e3 e4 e5 e6 e7 e8 e9 d0 d1 d2 d3 d4 d5 d6 d7 d8 d9 d10 d11 d12 d13 d14 hcw
        have KY := Lib.hid ky; clear ky
        have Z7 := Lib.hid (Z6.out.kept KY.out); have B7 := Lib.hid (B6.out.kept KY.out); have C7 := Lib.hid (C6.out.kept KY.out)
        by_cases n3 : (k : Int) < 2
        case neg =>
          go_wp2
          go_roundw
          case rel => exact ⟨HK.out.trans KY.out, k + 1, hlt, by go_num⟩
          case measure => simp [intOf]; omega
        go_wp2_with (first | refine wpList_load_row rfl 25 _ rfl w.heap.size rfl 25 _ (0, 0) _ Z7.out Tryz.underlying25 rfl (by kernel_rfl) ?_ | refine wpList_load_row rfl 30 _ rfl (w.heap.size + 1) rfl 30 _ (0, 0) _ B7.out Tryz.underlying30 rfl (by kernel_rfl) ?_)
        refine (HNu.out _ C7.out).mono ?_
        rintro e y2 ⟨rfl, ky2⟩
        have KY2 := Lib.hid (KY.out.trans ky2)
        clear ky2
        go_wp2
        go_roundw
        case rel => exact ⟨HK.out.trans KY2.out, k + 1, hlt, by go_num⟩
        case measure => simp [intOf]; omega
end Go.Proofs.YtilgamjahediiaaGreatDoor
