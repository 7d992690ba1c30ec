/- The law LocalBack, walked. -/
import Derived.Test.YtcgmefojokndhaaLcBackP
import Derived.Test.YtcgmefojokndhaaBsOpen
import Derived.Deep.QuietTactic
namespace Go.Proofs.Ytcgmefojokndhaa
open Go.ChangeShapes Go.WideShapes Go.ChangeAt Go.RowKit
open Civ Zn Lc
theorem any_take {L : List Int} {t n : Int} {k : Nat} (h : L[k]? = some n) : (L.take (k + 1)).any (· == t) = ((L.take k).any (· == t) || n == t) := by
  rw [List.take_add_one, h]
  simp
theorem Out.len {B : Nat} {v : Value} {l : List Int} {x : World} (h : Out B v l x) : l.length ≤ maxLen := by
  rcases h.2 with ⟨_, h2⟩ | ⟨g, cap, _, _, _, _, h3, h4, _⟩
  · unfold maxLen; omega
  · omega
theorem six_heap {x : World} {q : Nat} {cs : Array Value} (h : x.heap[q]? = some (.cells cs 35)) (hs : cs.size = 6) (v0 v1 v2 v3 v4 v5 : Value) :
    ((((((x.setCell ⟨q, 0, none⟩ v0).setCell ⟨q, 1, none⟩ v1).setCell ⟨q, 2, none⟩ v2).setCell ⟨q, 3, none⟩ v3).setCell ⟨q, 4, none⟩ v4).setCell ⟨q, 5, none⟩ v5).heap[q]? = some (.cells #[v0, v1, v2, v3, v4, v5] 35) := by
  obtain ⟨l⟩ := cs
  obtain ⟨a, b, c, d, e, f, rfl⟩ := list6 (show l.length = 6 from hs)
  simp [World.setCell, Array.getElem?_modify, h]
theorem neq_civ (c : Six) (W : World) : (binOp .neq 35 (.agg #[.int .i64 c.y, .int .i64 c.m, .int .i64 c.d, .int .i64 c.h, .int .i64 c.i, .int .i64 c.s]) (.agg #[.int .i64 c.y, .int .i64 c.m, .int .i64 c.d, .int .i64 c.h, .int .i64 c.i, .int .i64 c.s])).run Try.prog W = .ok (.bool false) W := by
  have h := eq_civ c.y c.m c.d c.h c.i c.s c.y c.m c.d c.h c.i c.s W
  rw [cvE_iff.2 ⟨rfl, rfl, rfl, rfl, rfl, rfl⟩] at h
  rw [run_neq_struct, h]
  rfl
set_option maxRecDepth 100000 in
set_option maxHeartbeats 4000000 in
theorem walkBack (z : Zo) (t : Int) (c : Six) (w : World) (f1 : z.std.length ≤ maxLen) (f2 : z.dst.length ≤ maxLen) (_ : -9223372036854775808 ≤ t) (_ : t ≤ 9223372036854775807) :
    Calls Try.prog 5 #[zoV z, .int .i64 t, sixV c] w fun e w' => e = .returned (.bool true) ∧ Kept w w' := by
  have B0 := Lib.hid (bz_new w z)
  have K0 := Lib.hid ((Kept.refl w).alloc (.cells (zo15 z.std z.off z.has z.dst z.ahead z.fr.k z.fr.m z.fr.w z.fr.d z.fr.a z.to.k z.to.m z.to.w z.to.d z.to.a) 25))
  go_enter Try.func5, Try.ntmps5
  go_upto_region 1 with (fail)
  generalize hx : w.alloc (.cells (zo15 z.std z.off z.has z.dst z.ahead z.fr.k z.fr.m z.fr.w z.fr.d z.fr.a z.to.k z.to.m z.to.w z.to.d z.to.a) 25) = x at *
  have s1 : x.heap.size = w.heap.size + 1 := by rw [← hx]; simp
  clear hx
  have b1 : Bc x.heap.size c.y c.m c.d c.h c.i c.s (x.alloc (.cells #[.int .i64 c.y, .int .i64 c.m, .int .i64 c.d, .int .i64 c.h, .int .i64 c.i, .int .i64 c.s] 35)) := new_block x _
  have k1 := (Kept.refl x).alloc (.cells #[.int .i64 c.y, .int .i64 c.m, .int .i64 c.d, .int .i64 c.h, .int .i64 c.i, .int .i64 c.s] 35)
  rw [s1] at b1
  generalize x.alloc (.cells #[.int .i64 c.y, .int .i64 c.m, .int .i64 c.d, .int .i64 c.h, .int .i64 c.i, .int .i64 c.s] 35) = x1 at *
  have B1 := Lib.hid (B0.out.kept k1)
  have C1 := Lib.hid b1
  have K1 := Lib.hid (K0.out.trans k1)
  clear B0 K0 k1 b1 s1
  go_wp2_with fail
  refine (awake_yes _).mono ?_
  rintro e w2 ⟨rfl, k2⟩
  have B2 := Lib.hid (B1.out.kept k2)
  have C2 := Lib.hid (C1.out.kept k2)
  have K2 := Lib.hid (K1.out.trans k2)
  clear B1 C1 K1 k2
  go_wp2_with (refine wpList_load_row rfl 25 _ rfl w.heap.size rfl 25 _ (0, 0) _ B2.out Try.underlying25 rfl (by kernel_rfl) ?_)
  refine (short_any z _ f1 f2).mono ?_
  rintro e w3 ⟨rfl, k3⟩
  have B3 := Lib.hid (B2.out.kept k3)
  have C3 := Lib.hid (C2.out.kept k3)
  have K3 := Lib.hid (K2.out.trans k3)
  clear B2 C2 K2 k3
  cases hs : shB z with
  | false =>
    clear hs
    go_wp2
    go_ret
    exact ⟨rfl, K3.out⟩
  | true =>
    clear hs
    go_wp2_with (refine wpList_load_row rfl 25 _ rfl w.heap.size rfl 25 _ (0, 0) _ B3.out Try.underlying25 rfl (by kernel_rfl) ?_)
    refine (at_any' z t _).mono ?_
    rintro e w4 ⟨rfl, k4, hD⟩
    have B4 := Lib.hid (B3.out.kept k4)
    have C4 := Lib.hid (C3.out.kept k4)
    have K4 := Lib.hid (K3.out.trans k4)
    clear B3 C3 K3 k4
    have HD := Lib.hid hD; clear hD
    generalize hp : atS z t = p at *
    generalize hq : atE z t = pe at *
    have HP := Lib.hid hp; have HQ := Lib.hid hq; clear hp hq
    go_upto_region 6 with (fail)
    have k5 := (Kept.refl w4).alloc (.cells #[.int .i64 p.y, .int .i64 p.m, .int .i64 p.d, .int .i64 p.h, .int .i64 p.i, .int .i64 p.s] 35)
    have n5 := new_block w4 (.cells #[.int .i64 p.y, .int .i64 p.m, .int .i64 p.d, .int .i64 p.h, .int .i64 p.i, .int .i64 p.s] 35)
    generalize w4.heap.size = q1 at *
    generalize w4.alloc (.cells #[.int .i64 p.y, .int .i64 p.m, .int .i64 p.d, .int .i64 p.h, .int .i64 p.i, .int .i64 p.s] 35) = w5 at *
    have X5 := Lib.hid n5; clear n5
    have B5 := Lib.hid (B4.out.kept k5)
    have C5 := Lib.hid (C4.out.kept k5)
    have K5 := Lib.hid (K4.out.trans k5)
    clear B4 C4 K4 k5
    have cy := cell_of X5.out (j := 0) rfl
    go_cut [47] from 127 (fun v x => v = .bool (decide (pe = 0 ∧ 1970 ≤ p.y ∧ p.y ≤ 9998)) ∧ w5 = x)
    case first =>
      by_cases g0 : pe = 0
      · have hb : (pe == 0) = true := by simp [g0]
        have G0 := Lib.hid g0; clear g0
        by_cases g1 : 1970 ≤ p.y
        · by_cases g2 : p.y ≤ 9998
          · go_wp2
            go_meet
            exact ⟨by rw [decide_eq_true ⟨G0.out, g1, g2⟩], rfl⟩
          · go_wp2
            go_meet
            exact ⟨by rw [decide_eq_false (fun q => by omega)], rfl⟩
        · go_wp2
          go_meet
          exact ⟨by rw [decide_eq_false (fun q => by omega)], rfl⟩
      · have hb : (pe == 0) = false := by simp [g0]
        have G0 := Lib.hid g0; clear g0
        go_wp2
        go_meet
        exact ⟨by rw [decide_eq_false (fun q => G0.out q.1)], rfl⟩
    case rest =>
      obtain ⟨rfl, rfl⟩ := hcut
      clear cy
      have HB := Lib.hid (show decide (pe = 0 ∧ 1970 ≤ p.y ∧ p.y ≤ 9998) = true → ofE z p = 0 ∧ t ∈ ofS z p from fun hd => by
        have hd' := of_decide_eq_true hd
        have ha : AtOk z t := by
          by_cases q : AtOk z t
          · exact q
          · have := HQ.out; unfold atE at this; rw [if_neg q] at this; omega
        have hb := at_back ha (HD.out ha)
        rw [HP.out] at hb
        exact hb hd'.2.1 hd'.2.2)
      generalize decide (pe = 0 ∧ 1970 ≤ p.y ∧ p.y ≤ 9998) = bb at *
      go_upto_if 47 with (fail)
      go_cut [] from 127 (fun x => Kept w5 x)
      case first =>
        cases bb with
        | false =>
          go_wp2
          go_meet
          exact Kept.refl _
        | true =>
          obtain ⟨g1, g2⟩ := HB.out rfl
          have G1 := Lib.hid g1; have G2 := Lib.hid g2; clear g1 g2
          go_wp2_with (first | (refine wpList_load_row rfl 25 _ rfl w.heap.size rfl 25 _ (0, 0) _ B5.out Try.underlying25 rfl (by kernel_rfl) ?_) | (refine wpList_load_row rfl 35 _ rfl (q1) rfl 35 _ (0, 0) _ X5.out Try.underlying35 rfl (by kernel_rfl) ?_))
          refine (of_any z p _).mono ?_
          rintro e w6 ⟨ao, cap, rfl, o6, k6⟩
          rw [G1.out]
          generalize ofS z p = L at *
          have hl := o6.len
          unfold maxLen at hl
          have O6 := Lib.hid o6; clear o6
          go_wp2_with fail
          go_loop [13, 14] (fun a b => ∃ k : Nat, k ≤ L.length ∧ a = .bool ((L.take k).any (· == t)) ∧ b = .int .i64 k) (fun _ b => L.length - (intOf b).toNat)
          case atStart => exact ⟨0, Nat.zero_le _, by simp, rfl⟩
          case round =>
            obtain ⟨k, hk, rfl, rfl⟩ := hrel
            by_cases hlt : k < L.length
            · obtain ⟨g, cp, q0, r0⟩ := O6.out.at hlt
              obtain ⟨n, hn⟩ : ∃ n, L[k]? = some n := ⟨_, List.getElem?_eq_getElem hlt⟩
              have s0 := r0 k n hn
              have AT := Lib.hid (any_take (t := t) hn)
              simp only [Value.slice.injEq] at q0
              obtain ⟨rfl, _, rfl⟩ := q0
              clear r0 hn
              generalize (L.take k).any (· == t) = ib at *
              cases ib with
              | true =>
                go_wp2
                go_round
                case rel => exact ⟨k + 1, hlt, by rw [AT.out]; rfl, by go_num⟩
                case measure => simp [intOf]; omega
              | false =>
                go_wp2
                go_round
                case rel => exact ⟨k + 1, hlt, by rw [AT.out]; rfl, by go_num⟩
                case measure => simp [intOf]; omega
            · have hkL : k = L.length := by omega
              have hA : (L.take k).any (· == t) = true := by
                rw [hkL, List.take_length, List.any_eq_true]
                exact ⟨t, G2.out, by simp⟩
              rw [hA]
              clear hA
              go_wp2
              go_meet
              exact k6
      case rest =>
        have KW := Lib.hid hcut; clear hcut HB
        have B6 := Lib.hid (B5.out.kept KW.out)
        have C6 := Lib.hid (C5.out.kept KW.out)
        have K6 := Lib.hid (K5.out.trans KW.out)
        clear B5 C5 K5 X5
        go_wp2_with (first | (refine wpList_load_row rfl 25 _ rfl w.heap.size rfl 25 _ (0, 0) _ B6.out Try.underlying25 rfl (by kernel_rfl) ?_) | (refine wpList_load_row rfl 35 _ rfl (w.heap.size + 1) rfl 35 _ (0, 0) _ C6.out Try.underlying35 rfl (by kernel_rfl) ?_))
        refine (of_any z c _).mono ?_
        rintro e w7 ⟨ao, cap, rfl, o7, k7⟩
        have B7 := Lib.hid (B6.out.kept k7)
        have C7 := Lib.hid (C6.out.kept k7)
        have K7 := Lib.hid (K6.out.trans k7)
        clear B6 C6 K6 k7 HD HP HQ KW
        by_cases hc : CivOk z c
        · have G1 := Lib.hid (show ofE z c = 0 by unfold ofE; rw [if_pos hc])
          have BK := Lib.hid (fun n (h : n ∈ ofS z c) => of_back hc h)
          have L2 := Lib.hid (show (ofS z c).length ≤ 2 by unfold ofS; rw [if_pos hc]; exact ofL_len _ _)
          have RI := Lib.hid (fun a b (h0 : (ofS z c)[0]? = some a) (h1 : (ofS z c)[1]? = some b) => show a < b by
            unfold ofS at h0 h1; rw [if_pos hc] at h0 h1; exact ofL_rise h0 h1)
          clear hc
          rw [G1.out]
          generalize ofS z c = L at *
          have hl := L2.out
          have O7 := Lib.hid o7; clear o7
          go_wp2_with fail
          go_loopw [17] (fun i y => ∃ k : Nat, k ≤ L.length ∧ i = .int .i64 k ∧ Kept w7 y) (fun i _ => L.length - (intOf i).toNat)
          case atStart => exact ⟨0, Nat.zero_le _, rfl, Kept.refl _⟩
          case round =>
            obtain ⟨k, hk, rfl, hkp⟩ := hrel
            by_cases hlt : k < L.length
            · obtain ⟨g, cp, q0, r0⟩ := (O7.out.kept' hkp).at hlt
              obtain ⟨n, hn⟩ : ∃ n, L[k]? = some n := ⟨_, List.getElem?_eq_getElem hlt⟩
              have s0 := r0 k n hn
              have gl := Lib.hid (show g < wr.heap.size by
                by_cases h : g < wr.heap.size
                · exact h
                · unfold World.cell? at s0; rw [Array.getElem?_eq_none (show wr.heap.size ≤ g by omega)] at s0; simp at s0)
              simp only [Value.slice.injEq] at q0
              obtain ⟨rfl, _, rfl⟩ := q0
              obtain ⟨bk1, bk2⟩ := BK.out n (List.mem_of_getElem? hn)
              have E1 := Lib.hid (show atE z n = 0 by unfold atE; rw [if_pos bk1])
              have E2 := Lib.hid bk2
              clear bk1 bk2
              have HP := Lib.hid hkp
              have Bw := Lib.hid (B7.out.kept hkp)
              have Cw := Lib.hid (C7.out.kept hkp)
              clear hkp
              have c0 := Bw.out.cs.c0
              have c1 := Bw.out.cs.c1
              have c2 := Bw.out.cs.c2
              have c3 := Bw.out.cs.c3
              have c4 := Bw.out.cs.c4
              have c5 := Bw.out.cs.c5
              have c6 := Bw.out.cs.c6
              have c7 := Bw.out.cs.c7
              have c8 := Bw.out.cs.c8
              have c9 := Bw.out.cs.c9
              have c10 := Bw.out.cs.c10
              have c11 := Bw.out.cs.c11
              have c12 := Bw.out.cs.c12
              have c13 := Bw.out.cs.c13
              have c14 := Bw.out.cs.c14
              go_wp2_with fail
              have HS := Lib.hid (show ∀ y : World, Kept wr y → (Kept wr y ∧ y.cell? ⟨w.heap.size, 0, none⟩ = some (.string ⟨z.std.toArray⟩) ∧ y.cell? ⟨w.heap.size, 1, none⟩ = some (.int .i64 z.off) ∧ y.cell? ⟨w.heap.size, 2, none⟩ = some (.bool z.has) ∧ y.cell? ⟨w.heap.size, 3, none⟩ = some (.string ⟨z.dst.toArray⟩) ∧ y.cell? ⟨w.heap.size, 4, none⟩ = some (.int .i64 z.ahead) ∧ y.cell? ⟨w.heap.size, 5, none⟩ = some (.int .i64 z.fr.k) ∧ y.cell? ⟨w.heap.size, 6, none⟩ = some (.int .i64 z.fr.m) ∧ y.cell? ⟨w.heap.size, 7, none⟩ = some (.int .i64 z.fr.w) ∧ y.cell? ⟨w.heap.size, 8, none⟩ = some (.int .i64 z.fr.d) ∧ y.cell? ⟨w.heap.size, 9, none⟩ = some (.int .i64 z.fr.a) ∧ y.cell? ⟨w.heap.size, 10, none⟩ = some (.int .i64 z.to.k) ∧ y.cell? ⟨w.heap.size, 11, none⟩ = some (.int .i64 z.to.m) ∧ y.cell? ⟨w.heap.size, 12, none⟩ = some (.int .i64 z.to.w) ∧ y.cell? ⟨w.heap.size, 13, none⟩ = some (.int .i64 z.to.d) ∧ y.cell? ⟨w.heap.size, 14, none⟩ = some (.int .i64 z.to.a) ∧ y.cell? ⟨g, k, none⟩ = some (.int .i64 n)) from fun y ky => by
                have Bq := Bw.out.kept ky
                exact ⟨ky, Bq.cs.c0, Bq.cs.c1, Bq.cs.c2, Bq.cs.c3, Bq.cs.c4, Bq.cs.c5, Bq.cs.c6, Bq.cs.c7, Bq.cs.c8, Bq.cs.c9, Bq.cs.c10, Bq.cs.c11, Bq.cs.c12, Bq.cs.c13, Bq.cs.c14, (ky.cell (a := ⟨g, k, none⟩) gl.out).trans s0⟩)
              go_region_held3 (fun y => Kept wr y ∧ y.cell? ⟨w.heap.size, 0, none⟩ = some (.string ⟨z.std.toArray⟩) ∧ y.cell? ⟨w.heap.size, 1, none⟩ = some (.int .i64 z.off) ∧ y.cell? ⟨w.heap.size, 2, none⟩ = some (.bool z.has) ∧ y.cell? ⟨w.heap.size, 3, none⟩ = some (.string ⟨z.dst.toArray⟩) ∧ y.cell? ⟨w.heap.size, 4, none⟩ = some (.int .i64 z.ahead) ∧ y.cell? ⟨w.heap.size, 5, none⟩ = some (.int .i64 z.fr.k) ∧ y.cell? ⟨w.heap.size, 6, none⟩ = some (.int .i64 z.fr.m) ∧ y.cell? ⟨w.heap.size, 7, none⟩ = some (.int .i64 z.fr.w) ∧ y.cell? ⟨w.heap.size, 8, none⟩ = some (.int .i64 z.fr.d) ∧ y.cell? ⟨w.heap.size, 9, none⟩ = some (.int .i64 z.fr.a) ∧ y.cell? ⟨w.heap.size, 10, none⟩ = some (.int .i64 z.to.k) ∧ y.cell? ⟨w.heap.size, 11, none⟩ = some (.int .i64 z.to.m) ∧ y.cell? ⟨w.heap.size, 12, none⟩ = some (.int .i64 z.to.w) ∧ y.cell? ⟨w.heap.size, 13, none⟩ = some (.int .i64 z.to.d) ∧ y.cell? ⟨w.heap.size, 14, none⟩ = some (.int .i64 z.to.a) ∧ y.cell? ⟨g, k, none⟩ = some (.int .i64 n)) ((refine HS.out _ ?_; repeat' (first | with_reducible exact kk.out | with_reducible exact Kept.refl _ | with_reducible refine Kept.setCell ?_ ?_ _ | with_reducible refine Kept.alloc ?_ _ | with_reducible refine Kept.drew ?_ | exact Nat.le_refl _ | exact kk.out.size))) (first | (go_at_call 17; refine (at_any' z n _).mono ?_; rintro e w8 ⟨rfl, k8, _⟩; rw [E1.out, E2.out]; have kk := Lib.hid (show Kept wr w8 by first | with_reducible exact (Kept.refl wr).drew.trans k8 | with_reducible exact ((Kept.refl wr).alloc _).drew.trans k8 | exact ((Kept.refl wr).drew.alloc _).trans k8 | exact ((Kept.refl wr).alloc _).drew.trans k8); first | (have k9 : Kept (wr.alloc (.cells #[.int .i64 0, .int .i64 0, .int .i64 0, .int .i64 0, .int .i64 0, .int .i64 0] 35)) w8 := Kept.trans (Kept.refl _).drew k8; have z0 : w8.cell? ⟨wr.heap.size, 0, none⟩ = some (.int .i64 0) := k9.new 0 rfl; have z1 : w8.cell? ⟨wr.heap.size, 1, none⟩ = some (.int .i64 0) := k9.new 1 rfl; have z2 : w8.cell? ⟨wr.heap.size, 2, none⟩ = some (.int .i64 0) := k9.new 2 rfl; have z3 : w8.cell? ⟨wr.heap.size, 3, none⟩ = some (.int .i64 0) := k9.new 3 rfl; have z4 : w8.cell? ⟨wr.heap.size, 4, none⟩ = some (.int .i64 0) := k9.new 4 rfl; have z5 : w8.cell? ⟨wr.heap.size, 5, none⟩ = some (.int .i64 0) := k9.new 5 rfl; have zb : w8.heap[wr.heap.size]? = some (.cells #[.int .i64 0, .int .i64 0, .int .i64 0, .int .i64 0, .int .i64 0, .int .i64 0] 35) := (k9.block _ (by simp)).trans (new_block wr _); have zf : ∀ j, w8.frozen? ⟨wr.heap.size, j, none⟩ = false := k9.newF; clear k8 k9) | clear k8))
              · have KF := (by assumption : Kept wr (w8.alloc (.cells #[.int .i64 c.y, .int .i64 c.m, .int .i64 c.d, .int .i64 c.h, .int .i64 c.i, .int .i64 c.s] 35)) ∧ _).1
                have nb := new_block w8 (.cells #[.int .i64 c.y, .int .i64 c.m, .int .i64 c.d, .int .i64 c.h, .int .i64 c.i, .int .i64 c.s] 35)
                generalize w8.heap.size = q at *
                generalize w8.alloc (.cells #[.int .i64 c.y, .int .i64 c.m, .int .i64 c.d, .int .i64 c.h, .int .i64 c.i, .int .i64 c.s] 35) = F at *
                have KH := Lib.hid KF; clear KF
                have d0 := cell_of nb (j := 0) rfl
                have d1 := cell_of nb (j := 1) rfl
                have d2 := cell_of nb (j := 2) rfl
                have d3 := cell_of nb (j := 3) rfl
                have d4 := cell_of nb (j := 4) rfl
                have d5 := cell_of nb (j := 5) rfl
                have CF := Cw.out.kept KH.out
                have e0 := cell_of CF (j := 0) rfl
                have e1 := cell_of CF (j := 1) rfl
                have e2 := cell_of CF (j := 2) rfl
                have e3 := cell_of CF (j := 3) rfl
                have e4 := cell_of CF (j := 4) rfl
                have e5 := cell_of CF (j := 5) rfl
                clear nb CF
                have hN := neq_civ c
                rcases (show k = 0 ∨ k = 1 by omega) with hk0 | hk1
                · have K0 := Lib.hid hk0
                  rw [hk0]
                  go_wp2_with fail
                  go_quiet (fail)
                  go_wp2
                  go_roundw
                  case rel => exact ⟨k + 1, hlt, by rw [K0.out]; rfl, (HP.out.trans KH.out).drewN _⟩
                  case measure => simp [intOf]; omega
                · obtain ⟨n0, hn0⟩ : ∃ n0, L[0]? = some n0 := ⟨_, List.getElem?_eq_getElem (by omega)⟩
                  have hlt0 : n0 < n := RI.out n0 n hn0 (by rw [← hk1]; exact hn)
                  have sa := (KH.out.cell (a := ⟨g, 0, none⟩) gl.out).trans (r0 0 n0 hn0)
                  have sb := (KH.out.cell (a := ⟨g, k, none⟩) gl.out).trans s0
                  have K1 := Lib.hid hk1
                  rw [hk1] at sb ⊢
                  clear r0 s0 hn hn0
                  go_wp2_with fail
                  go_quiet (fail)
                  go_wp2
                  go_roundw
                  case rel => exact ⟨k + 1, hlt, by rw [K1.out]; rfl, (HP.out.trans KH.out).drewN _⟩
                  case measure => simp [intOf]; omega
              · have KF := (by assumption : Kept wr ((((((w8.setCell ⟨wr.heap.size, 0, none⟩ (.int .i64 c.y)).setCell ⟨wr.heap.size, 1, none⟩ (.int .i64 c.m)).setCell ⟨wr.heap.size, 2, none⟩ (.int .i64 c.d)).setCell ⟨wr.heap.size, 3, none⟩ (.int .i64 c.h)).setCell ⟨wr.heap.size, 4, none⟩ (.int .i64 c.i)).setCell ⟨wr.heap.size, 5, none⟩ (.int .i64 c.s)) ∧ _).1
                have nb := six_heap zb rfl (.int .i64 c.y) (.int .i64 c.m) (.int .i64 c.d) (.int .i64 c.h) (.int .i64 c.i) (.int .i64 c.s)
                clear z0 z1 z2 z3 z4 z5 zf zb
                generalize ((((((w8.setCell ⟨wr.heap.size, 0, none⟩ (.int .i64 c.y)).setCell ⟨wr.heap.size, 1, none⟩ (.int .i64 c.m)).setCell ⟨wr.heap.size, 2, none⟩ (.int .i64 c.d)).setCell ⟨wr.heap.size, 3, none⟩ (.int .i64 c.h)).setCell ⟨wr.heap.size, 4, none⟩ (.int .i64 c.i)).setCell ⟨wr.heap.size, 5, none⟩ (.int .i64 c.s)) = F at *
                have KH := Lib.hid KF; clear KF
                have d0 := cell_of nb (j := 0) rfl
                have d1 := cell_of nb (j := 1) rfl
                have d2 := cell_of nb (j := 2) rfl
                have d3 := cell_of nb (j := 3) rfl
                have d4 := cell_of nb (j := 4) rfl
                have d5 := cell_of nb (j := 5) rfl
                have CF := Cw.out.kept KH.out
                have e0 := cell_of CF (j := 0) rfl
                have e1 := cell_of CF (j := 1) rfl
                have e2 := cell_of CF (j := 2) rfl
                have e3 := cell_of CF (j := 3) rfl
                have e4 := cell_of CF (j := 4) rfl
                have e5 := cell_of CF (j := 5) rfl
                clear nb CF
                have hN := neq_civ c
                rcases (show k = 0 ∨ k = 1 by omega) with hk0 | hk1
                · have K0 := Lib.hid hk0
                  rw [hk0]
                  go_wp2_with fail
                  go_quiet (fail)
                  go_wp2
                  go_roundw
                  case rel => exact ⟨k + 1, hlt, by rw [K0.out]; rfl, (HP.out.trans KH.out).drewN _⟩
                  case measure => simp [intOf]; omega
                · obtain ⟨n0, hn0⟩ : ∃ n0, L[0]? = some n0 := ⟨_, List.getElem?_eq_getElem (by omega)⟩
                  have hlt0 : n0 < n := RI.out n0 n hn0 (by rw [← hk1]; exact hn)
                  have sa := (KH.out.cell (a := ⟨g, 0, none⟩) gl.out).trans (r0 0 n0 hn0)
                  have sb := (KH.out.cell (a := ⟨g, k, none⟩) gl.out).trans s0
                  have K1 := Lib.hid hk1
                  rw [hk1] at sb ⊢
                  clear r0 s0 hn hn0
                  go_wp2_with fail
                  go_quiet (fail)
                  go_wp2
                  go_roundw
                  case rel => exact ⟨k + 1, hlt, by rw [K1.out]; rfl, (HP.out.trans KH.out).drewN _⟩
                  case measure => simp [intOf]; omega
            · have : k = L.length := by omega
              go_wp2
              go_ret
              exact ⟨ret_bool (show decide ((L.length : Int) ≤ 2) = true by simp; omega), K7.out.trans hkp⟩
        · have G1 := Lib.hid (show ofE z c = 1 by unfold ofE; rw [if_neg hc])
          have G2 := Lib.hid (show ofS z c = [] by unfold ofS; rw [if_neg hc])
          clear hc o7
          rw [G1.out, G2.out]
          go_wp2
          go_ret
          exact ⟨rfl, K7.out⟩
end Go.Proofs.Ytcgmefojokndhaa
