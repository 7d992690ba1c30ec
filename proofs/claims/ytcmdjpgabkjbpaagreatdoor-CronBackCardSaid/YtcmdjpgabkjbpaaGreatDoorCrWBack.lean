/- What is written is read, if it is not too long; what is read may be. -/
import Derived.Test.YtcmdjpgabkjbpaaGreatDoorCrBackP
import Derived.Test.YtcmdjpgabkjbpaaGreatDoorCrRes
import Derived.Test.YtcmdjpgabkjbpaaGreatDoorCrFew
set_option linter.unusedVariables false
namespace Go.Proofs.YtcmdjpgabkjbpaaGreatDoor
open Go.ChangeShapes Go.WideShapes Go.ChangeAt Go.RowKit
open Crn Civ
theorem wtxt_len {c : CR} (h : mayC c = true) : (wtxt c).length ≤ 905 := by
  have := join_len 180 32 (prts c 5) (fun x hx => by
    obtain ⟨j, hj, rfl⟩ := List.mem_map.1 hx
    rw [List.mem_range] at hj
    obtain ⟨b1, b2, _⟩ := mayF_bd (mayC_at h j hj)
    have := lo_bd j; have := hi_bd j
    exact ptxt_len (fun x hx => by have := b1 x hx; omega) b2)
  rw [prts_len, prts_5] at this; omega
set_option maxRecDepth 100000 in
set_option maxHeartbeats 4000000 in
theorem back_walk (c : CR) (sl : Nat → Value) (s : ByteArray) (w : World) (hc : Cr w sl c.L) (htab : Tab w) : Calls Tryz.prog 5 #[crV sl c.st, .string s] w fun e w' => e = .returned (.bool true) ∧ Kept w w' := by
  obtain ⟨⟨l⟩⟩ := s
  show Calls Tryz.prog 5 #[crV sl c.st, .string ⟨l.toArray⟩] w _
  have k0 := (Kept.refl w).alloc (.cells (cr10 sl c.st) 27)
  have B0 := Lib.hid (Cb.new sl c.st w)
  have C0 := Lib.hid (hc.kept k0)
  have T0 := Lib.hid ((Tb.start htab).kept k0)
  have K0 := Lib.hid k0
  clear hc htab k0
  go_enter Tryz.func5, Tryz.ntmps5
  go_upto_region 1 with (fail)
  generalize w.alloc (.cells (cr10 sl c.st) 27) = x at *
  go_wp2_with fail
  refine (awake_yes _ T0.out.tab).mono ?_
  rintro e x1 ⟨rfl, k1⟩
  have B1 := Lib.hid (B0.out.kept k1); have C1 := Lib.hid (C0.out.kept k1); have K1 := Lib.hid (K0.out.trans k1); have T1 := Lib.hid (T0.out.kept k1)
  clear k1 B0 C0 K0 T0
  obtain ⟨e0, e1, e2, e3, e4, e5, e6, e7, e8, e9⟩ := cells10 B1.out
  go_wp2_with fail
  refine (few_any c sl _ C1.out).mono ?_
  rintro e x2 ⟨rfl, k2⟩
  have B2 := Lib.hid (B1.out.kept k2); have C2 := Lib.hid (C1.out.kept k2); have K2 := Lib.hid (K1.out.trans k2); have T2 := Lib.hid (T1.out.kept k2)
  clear k2 B1 C1 K1 T1
  clear e0 e1 e2 e3 e4 e5 e6 e7 e8 e9
  generalize decide (FewP c) = few at *
  by_cases h3 : 300 < l.length
  · cases few
    all_goals
      go_wp2
      go_ret
      exact ⟨rfl, K2.out⟩
  cases few with
  | false =>
    go_wp2
    go_ret
    exact ⟨rfl, K2.out⟩
  | true =>
    obtain ⟨e0, e1, e2, e3, e4, e5, e6, e7, e8, e9⟩ := cells10 B2.out
    go_wp2_with fail
    refine (cwrite_any c sl _ C2.out).mono ?_
    rintro e x3 ⟨hy, hn, k3⟩
    have B3 := Lib.hid (B2.out.kept k3); have C3 := Lib.hid (C2.out.kept k3); have K3 := Lib.hid (K2.out.trans k3); have T3 := Lib.hid (T2.out.kept k3)
    clear k3 B2 C2 K2 T2
    clear e0 e1 e2 e3 e4 e5 e6 e7 e8 e9
    cases hm : mayC c with
    | false =>
      obtain rfl := hn hm
      clear hy hn hm
      rcases res_cases l with ⟨dd, r1, r2⟩ | ⟨r1, r2⟩ | ⟨r1, r2⟩
      · go_wp2_with fail
        refine (parse_any l w.heap.size _ T3.out K3.out.size (by omega)).mono ?_
        intro e y1 hp
        obtain ⟨sb, rfl, cb, q1⟩ := parse_as r1 hp
        have HZ := Lib.hid (box_z y1)
        have q2 := q1.trans (box_k y1 sb dd.st)
        have BB := Lib.hid (box_b y1 sb dd.st)
        have ho := cr_ones dd.st cb
        have CB := Lib.hid (cb.kept (box_k y1 sb dd.st))
        have KZ := Lib.hid (K3.out.trans q2)
        clear hp cb q1 q2 K3 T3 B3 C3
        have HM := Lib.hid (prs_may r2)
        go_upto_region 11 with (refine wpList_store_row rfl 27 _ _ rfl y1.heap.size _ rfl rfl 27 _ HZ.out (by kernel_rfl) rfl ho ?_)
        generalize (y1.alloc (.cells z10 27)).setRow y1.heap.size (cr10 sb dd.st) = y2 at *
        have BB2 := BB
        obtain ⟨d0, d1, d2, d3, d4, d5, d6, d7, d8, d9⟩ := cells10 BB.out
        go_wp2_with fail
        refine (cmay_any _ sb _ CB.out).mono ?_
        rintro e y3 ⟨rfl, q3⟩
        rw [HM.out]
        go_wp2
        go_ret
        exact ⟨rfl, KZ.out.trans q3⟩
      · go_wp2_with fail
        refine (parse_any l w.heap.size _ T3.out K3.out.size (by omega)).mono ?_
        intro e y1 hp
        obtain ⟨sb, rfl, cb, q1⟩ := parse_as r1 hp
        have HZ := Lib.hid (box_z y1)
        have q2 := q1.trans (box_k y1 sb zC.st)
        have BB := Lib.hid (box_b y1 sb zC.st)
        have ho := cr_ones zC.st cb
        have CB := Lib.hid (cb.kept (box_k y1 sb zC.st))
        have KZ := Lib.hid (K3.out.trans q2)
        clear hp cb q1 q2 K3 T3 B3 C3
        go_upto_region 11 with (refine wpList_store_row rfl 27 _ _ rfl y1.heap.size _ rfl rfl 27 _ HZ.out (by kernel_rfl) rfl ho ?_)
        go_wp2
        go_ret
        exact ⟨rfl, KZ.out⟩
      · go_wp2_with fail
        refine (parse_any l w.heap.size _ T3.out K3.out.size (by omega)).mono ?_
        intro e y1 hp
        obtain ⟨sb, rfl, cb, q1⟩ := parse_as r1 hp
        have HZ := Lib.hid (box_z y1)
        have q2 := q1.trans (box_k y1 sb zC.st)
        have BB := Lib.hid (box_b y1 sb zC.st)
        have ho := cr_ones zC.st cb
        have CB := Lib.hid (cb.kept (box_k y1 sb zC.st))
        have KZ := Lib.hid (K3.out.trans q2)
        clear hp cb q1 q2 K3 T3 B3 C3
        go_upto_region 11 with (refine wpList_store_row rfl 27 _ _ rfl y1.heap.size _ rfl rfl 27 _ HZ.out (by kernel_rfl) rfl ho ?_)
        go_wp2
        go_ret
        exact ⟨rfl, KZ.out⟩
    | true =>
      obtain rfl := hy hm
      obtain ⟨c', hb, hs⟩ := wt_back hm
      have hwl := wtxt_len hm
      have HM := Lib.hid hm; have HB := Lib.hid hb; have HS := Lib.hid hs
      clear hy hn hm hb hs
      generalize wtxt c = t at *
      by_cases over : 200 < t.length
      · have r1 := res_over over
        go_wp2_with fail
        refine (parse_any t w.heap.size _ T3.out K3.out.size (by omega)).mono ?_
        intro e x4 hp
        obtain ⟨sa, rfl, ca, q1⟩ := parse_as r1 hp
        have HZ := Lib.hid (box_z x4)
        have k5 := q1.trans (box_k x4 sa zC.st)
        have BA := Lib.hid (box_b x4 sa zC.st)
        have ho := cr_ones zC.st ca
        have CA := Lib.hid (ca.kept (box_k x4 sa zC.st))
        clear hp ca q1
        have B5 := Lib.hid (B3.out.kept k5); have C5 := Lib.hid (C3.out.kept k5); have K5 := Lib.hid (K3.out.trans k5); have T5 := Lib.hid (T3.out.kept k5)
        clear k5 B3 C3 K3 T3
        go_upto_region 8 with (refine wpList_store_row rfl 27 _ _ rfl x4.heap.size _ rfl rfl 27 _ HZ.out (by kernel_rfl) rfl ho ?_)
        clear ho HZ
        generalize (x4.alloc (.cells z10 27)).setRow x4.heap.size (cr10 sa zC.st) = x5 at *
        rcases res_cases l with ⟨dd, r1, r2⟩ | ⟨r1, r2⟩ | ⟨r1, r2⟩
        · go_wp2_with fail
          refine (parse_any l w.heap.size _ T5.out K5.out.size (by omega)).mono ?_
          intro e y1 hp
          obtain ⟨sb, rfl, cb, q1⟩ := parse_as r1 hp
          have HZ := Lib.hid (box_z y1)
          have q2 := q1.trans (box_k y1 sb dd.st)
          have BB := Lib.hid (box_b y1 sb dd.st)
          have ho := cr_ones dd.st cb
          have CB := Lib.hid (cb.kept (box_k y1 sb dd.st))
          have KZ := Lib.hid (K5.out.trans q2)
          clear hp cb q1 q2 K5 T5 B5 C5
          have HM := Lib.hid (prs_may r2)
          go_upto_region 11 with (refine wpList_store_row rfl 27 _ _ rfl y1.heap.size _ rfl rfl 27 _ HZ.out (by kernel_rfl) rfl ho ?_)
          generalize (y1.alloc (.cells z10 27)).setRow y1.heap.size (cr10 sb dd.st) = y2 at *
          have BB2 := BB
          obtain ⟨d0, d1, d2, d3, d4, d5, d6, d7, d8, d9⟩ := cells10 BB.out
          go_wp2_with fail
          refine (cmay_any _ sb _ CB.out).mono ?_
          rintro e y3 ⟨rfl, q3⟩
          rw [HM.out]
          go_wp2
          go_ret
          exact ⟨rfl, KZ.out.trans q3⟩
        · go_wp2_with fail
          refine (parse_any l w.heap.size _ T5.out K5.out.size (by omega)).mono ?_
          intro e y1 hp
          obtain ⟨sb, rfl, cb, q1⟩ := parse_as r1 hp
          have HZ := Lib.hid (box_z y1)
          have q2 := q1.trans (box_k y1 sb zC.st)
          have BB := Lib.hid (box_b y1 sb zC.st)
          have ho := cr_ones zC.st cb
          have CB := Lib.hid (cb.kept (box_k y1 sb zC.st))
          have KZ := Lib.hid (K5.out.trans q2)
          clear hp cb q1 q2 K5 T5 B5 C5
          go_upto_region 11 with (refine wpList_store_row rfl 27 _ _ rfl y1.heap.size _ rfl rfl 27 _ HZ.out (by kernel_rfl) rfl ho ?_)
          go_wp2
          go_ret
          exact ⟨rfl, KZ.out⟩
        · go_wp2_with fail
          refine (parse_any l w.heap.size _ T5.out K5.out.size (by omega)).mono ?_
          intro e y1 hp
          obtain ⟨sb, rfl, cb, q1⟩ := parse_as r1 hp
          have HZ := Lib.hid (box_z y1)
          have q2 := q1.trans (box_k y1 sb zC.st)
          have BB := Lib.hid (box_b y1 sb zC.st)
          have ho := cr_ones zC.st cb
          have CB := Lib.hid (cb.kept (box_k y1 sb zC.st))
          have KZ := Lib.hid (K5.out.trans q2)
          clear hp cb q1 q2 K5 T5 B5 C5
          go_upto_region 11 with (refine wpList_store_row rfl 27 _ _ rfl y1.heap.size _ rfl rfl 27 _ HZ.out (by kernel_rfl) rfl ho ?_)
          go_wp2
          go_ret
          exact ⟨rfl, KZ.out⟩
      · have r1 := res_some over HB.out
        go_wp2_with fail
        refine (parse_any t w.heap.size _ T3.out K3.out.size (by omega)).mono ?_
        intro e x4 hp
        obtain ⟨sa, rfl, ca, q1⟩ := parse_as r1 hp
        have HZ := Lib.hid (box_z x4)
        have k5 := q1.trans (box_k x4 sa c'.st)
        have BA := Lib.hid (box_b x4 sa c'.st)
        have ho := cr_ones c'.st ca
        have CA := Lib.hid (ca.kept (box_k x4 sa c'.st))
        clear hp ca q1
        have B5 := Lib.hid (B3.out.kept k5); have C5 := Lib.hid (C3.out.kept k5); have K5 := Lib.hid (K3.out.trans k5); have T5 := Lib.hid (T3.out.kept k5)
        clear k5 B3 C3 K3 T3
        go_upto_region 8 with (refine wpList_store_row rfl 27 _ _ rfl x4.heap.size _ rfl rfl 27 _ HZ.out (by kernel_rfl) rfl ho ?_)
        clear ho HZ
        generalize (x4.alloc (.cells z10 27)).setRow x4.heap.size (cr10 sa c'.st) = x5 at *
        obtain ⟨e0, e1, e2, e3, e4, e5, e6, e7, e8, e9⟩ := cells10 B5.out
        obtain ⟨d0, d1, d2, d3, d4, d5, d6, d7, d8, d9⟩ := cells10 BA.out
        go_wp2_with fail
        refine (same_any c c' sl sa _ C5.out CA.out).mono ?_
        rintro e x6 ⟨rfl, k6⟩
        rw [decide_eq_true HS.out]
        clear e0 e1 e2 e3 e4 e5 e6 e7 e8 e9
        clear d0 d1 d2 d3 d4 d5 d6 d7 d8 d9
        have B6 := Lib.hid (B5.out.kept k6); have C6 := Lib.hid (C5.out.kept k6); have K6 := Lib.hid (K5.out.trans k6); have T6 := Lib.hid (T5.out.kept k6)
        clear k6 B5 C5 K5 T5
        clear r1
        rcases res_cases l with ⟨dd, r1, r2⟩ | ⟨r1, r2⟩ | ⟨r1, r2⟩
        · go_wp2_with fail
          refine (parse_any l w.heap.size _ T6.out K6.out.size (by omega)).mono ?_
          intro e y1 hp
          obtain ⟨sb, rfl, cb, q1⟩ := parse_as r1 hp
          have HZ := Lib.hid (box_z y1)
          have q2 := q1.trans (box_k y1 sb dd.st)
          have BB := Lib.hid (box_b y1 sb dd.st)
          have ho := cr_ones dd.st cb
          have CB := Lib.hid (cb.kept (box_k y1 sb dd.st))
          have KZ := Lib.hid (K6.out.trans q2)
          clear hp cb q1 q2 K6 T6 B6 C6
          have HM := Lib.hid (prs_may r2)
          go_upto_region 11 with (refine wpList_store_row rfl 27 _ _ rfl y1.heap.size _ rfl rfl 27 _ HZ.out (by kernel_rfl) rfl ho ?_)
          generalize (y1.alloc (.cells z10 27)).setRow y1.heap.size (cr10 sb dd.st) = y2 at *
          have BB2 := BB
          obtain ⟨d0, d1, d2, d3, d4, d5, d6, d7, d8, d9⟩ := cells10 BB.out
          go_wp2_with fail
          refine (cmay_any _ sb _ CB.out).mono ?_
          rintro e y3 ⟨rfl, q3⟩
          rw [HM.out]
          go_wp2
          go_ret
          exact ⟨rfl, KZ.out.trans q3⟩
        · go_wp2_with fail
          refine (parse_any l w.heap.size _ T6.out K6.out.size (by omega)).mono ?_
          intro e y1 hp
          obtain ⟨sb, rfl, cb, q1⟩ := parse_as r1 hp
          have HZ := Lib.hid (box_z y1)
          have q2 := q1.trans (box_k y1 sb zC.st)
          have BB := Lib.hid (box_b y1 sb zC.st)
          have ho := cr_ones zC.st cb
          have CB := Lib.hid (cb.kept (box_k y1 sb zC.st))
          have KZ := Lib.hid (K6.out.trans q2)
          clear hp cb q1 q2 K6 T6 B6 C6
          go_upto_region 11 with (refine wpList_store_row rfl 27 _ _ rfl y1.heap.size _ rfl rfl 27 _ HZ.out (by kernel_rfl) rfl ho ?_)
          go_wp2
          go_ret
          exact ⟨rfl, KZ.out⟩
        · go_wp2_with fail
          refine (parse_any l w.heap.size _ T6.out K6.out.size (by omega)).mono ?_
          intro e y1 hp
          obtain ⟨sb, rfl, cb, q1⟩ := parse_as r1 hp
          have HZ := Lib.hid (box_z y1)
          have q2 := q1.trans (box_k y1 sb zC.st)
          have BB := Lib.hid (box_b y1 sb zC.st)
          have ho := cr_ones zC.st cb
          have CB := Lib.hid (cb.kept (box_k y1 sb zC.st))
          have KZ := Lib.hid (K6.out.trans q2)
          clear hp cb q1 q2 K6 T6 B6 C6
          go_upto_region 11 with (refine wpList_store_row rfl 27 _ _ rfl y1.heap.size _ rfl rfl 27 _ HZ.out (by kernel_rfl) rfl ho ?_)
          go_wp2
          go_ret
          exact ⟨rfl, KZ.out⟩
end Go.Proofs.YtcmdjpgabkjbpaaGreatDoor
