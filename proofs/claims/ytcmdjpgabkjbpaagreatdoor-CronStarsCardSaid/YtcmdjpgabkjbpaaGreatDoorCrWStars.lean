/- Five stars have any day and time of a whole minute; with one number in the place of a star just those with it. -/
import Derived.Test.YtcmdjpgabkjbpaaGreatDoorCrStarP
set_option linter.unusedVariables false
namespace Go.Proofs.YtcmdjpgabkjbpaaGreatDoor
open Go.ChangeShapes Go.WideShapes Go.ChangeAt Go.RowKit
open Crn Civ
set_option maxRecDepth 100000 in
set_option maxHeartbeats 4000000 in
theorem stars_walk (y m d h i s n : Int) (w : World) (htab : Tab w) : Calls Tryz.prog 9 #[civ y m d h i s, .int .i64 n] w fun e w' => e = .returned (.bool true) ∧ Kept w w' := by
  have K0 := Lib.hid ((Kept.refl w).alloc (.cells #[.int .i64 y, .int .i64 m, .int .i64 d, .int .i64 h, .int .i64 i, .int .i64 s] 34))
  have D0 := Lib.hid (show Bc w.heap.size y m d h i s (w.alloc (.cells #[.int .i64 y, .int .i64 m, .int .i64 d, .int .i64 h, .int .i64 i, .int .i64 s] 34)) from new_block w _)
  have T0 := Lib.hid ((Tb.start htab).kept K0.out)
  clear htab
  go_enter Tryz.func9, Tryz.ntmps9
  go_upto_region 1 with (fail)
  generalize w.alloc (.cells #[.int .i64 y, .int .i64 m, .int .i64 d, .int .i64 h, .int .i64 i, .int .i64 s] 34) = x0 at *
  go_wp2_with fail
  refine (awake_yes _ T0.out.tab).mono ?_
  rintro e x1 ⟨rfl, k1⟩
  have K1 := Lib.hid (K0.out.trans k1); have D1 := Lib.hid (D0.out.kept k1); have T1 := Lib.hid (T0.out.kept k1)
  clear k1 K0 D0 T0
  by_cases g1 : n < 0
  · go_wp2
    go_ret
    exact ⟨rfl, K1.out⟩
  by_cases g2 : 59 < n
  · go_wp2
    go_ret
    exact ⟨rfl, K1.out⟩
  obtain ⟨A, a1, a2⟩ := star_A
  obtain ⟨B, b1, b2⟩ := star_B n (by omega) (by omega)
  have A1 := Lib.hid a1; have A2 := Lib.hid a2; have B1 := Lib.hid b1; have B2 := Lib.hid b2
  clear a1 a2 b1 b2
  have hdl := d2_len n
  go_wp2_with fail
  refine (parse_any st5 w.heap.size _ T1.out K1.out.size (by decide)).mono ?_
  intro e x2 hp
  obtain ⟨sa, rfl, ca, k2⟩ := parsed (by decide) A1.out hp
  have HZ2 := Lib.hid (box_z x2)
  have k3 := k2.trans (box_k x2 sa A.st)
  have BA3 := Lib.hid (box_b x2 sa A.st)
  have ho2 := cr_ones A.st ca
  have CA3 := Lib.hid (ca.kept (box_k x2 sa A.st))
  have K3 := Lib.hid (K1.out.trans k3); have D3 := Lib.hid (D1.out.kept k3); have T3 := Lib.hid (T1.out.kept k3)
  clear hp ca k2 k3 K1 D1 T1
  go_upto_region 5 with (refine wpList_store_row rfl 27 _ _ rfl x2.heap.size _ rfl rfl 27 _ HZ2.out (by kernel_rfl) rfl ho2 ?_)
  generalize (x2.alloc (.cells z10 27)).setRow x2.heap.size (cr10 sa A.st) = x3 at *
  have hs3 := K3.out.size
  have hss : (⟨(d2 n).toArray⟩ ++ ⟨#[32, 42, 32, 42, 32, 42, 32, 42]⟩ : ByteArray) = ⟨(d2 n ++ st4).toArray⟩ := app_mk (d2 n) st4
  go_wp2_with fail
  refine (ldigits_any n (by omega) (by omega) _).mono ?_
  rintro e x4 ⟨rfl, k4⟩
  have HS := Lib.hid hss; clear hss
  go_wp2_with fail
  rw [HS.out]
  refine (parse_any (d2 n ++ st4) w.heap.size _ (T3.out.kept k4) (Nat.le_trans hs3 k4.size) (by simp; omega)).mono ?_
  intro e x5 hp
  obtain ⟨sb, rfl, cb, k5⟩ := parsed (by simp; omega) B1.out hp
  have HZ5 := Lib.hid (box_z x5)
  have k6 := k4.trans (k5.trans (box_k x5 sb B.st))
  have BB6 := Lib.hid (box_b x5 sb B.st)
  have ho5 := cr_ones B.st cb
  have CB6 := Lib.hid (cb.kept (box_k x5 sb B.st))
  have K6 := Lib.hid (K3.out.trans k6); have D6 := Lib.hid (D3.out.kept k6); have CA6 := Lib.hid (CA3.out.kept k6); have BA6 := Lib.hid (BA3.out.kept k6)
  clear hp cb k4 k5 k6 K3 D3 T3 CA3 BA3 ho2 HZ2
  go_upto_region 6 with (refine wpList_store_row rfl 27 _ _ rfl x5.heap.size _ rfl rfl 27 _ HZ5.out (by kernel_rfl) rfl ho5 ?_)
  generalize (x5.alloc (.cells z10 27)).setRow x5.heap.size (cr10 sb B.st) = x6 at *
  clear ho5 HZ5
  obtain ⟨u0, u1, u2, u3, u4, u5⟩ := cells6 D6.out
  go_wp2_with fail
  refine (may_any y m d h i s _).mono ?_
  rintro e x7 ⟨rfl, k7⟩
  have K7 := Lib.hid (K6.out.trans k7); have D7 := Lib.hid (D6.out.kept k7); have CA7 := Lib.hid (CA6.out.kept k7); have BA7 := Lib.hid (BA6.out.kept k7); have CB7 := Lib.hid (CB6.out.kept k7); have BB7 := Lib.hid (BB6.out.kept k7)
  clear k7 K6 D6 CA6 BA6 CB6 BB6 u0 u1 u2 u3 u4 u5
  obtain ⟨e0, e1, e2, e3, e4, e5, e6, e7, e8, e9⟩ := cells10 BA7.out
  obtain ⟨v0, v1, v2, v3, v4, v5, v6, v7, v8, v9⟩ := cells10 BB7.out
  obtain ⟨u0, u1, u2, u3, u4, u5⟩ := cells6 D7.out
  go_wp2_with fail
  refine (match_any A sa y m d h i s _ CA7.out).mono ?_
  rintro e x8 ⟨rfl, k8⟩
  have K8 := Lib.hid (K7.out.trans k8); have D8 := Lib.hid (D7.out.kept k8); have BA8 := Lib.hid (BA7.out.kept k8); have CB8 := Lib.hid (CB7.out.kept k8); have BB8 := Lib.hid (BB7.out.kept k8)
  rw [A2.out]
  clear k8 K7 D7 CA7 BA7 CB7 BB7
  clear e0 e1 e2 e3 e4 e5 e6 e7 e8 e9 v0 v1 v2 v3 v4 v5 v6 v7 v8 v9 u0 u1 u2 u3 u4 u5
  obtain ⟨e0, e1, e2, e3, e4, e5, e6, e7, e8, e9⟩ := cells10 BA8.out
  obtain ⟨v0, v1, v2, v3, v4, v5, v6, v7, v8, v9⟩ := cells10 BB8.out
  obtain ⟨u0, u1, u2, u3, u4, u5⟩ := cells6 D8.out
  have HM := Lib.hid (match_any B sb y m d h i s x8 CB8.out)
  rw [B2.out y m d h i s] at HM
  have fin : ∀ x9, Kept x8 x9 → Kept w x9 := fun x9 k => K8.out.trans k
  have fb : ∀ x9, Kept x8 x9 → Cb x2.heap.size sa A.st x9 ∧ Cb x5.heap.size sb B.st x9 ∧ Bc w.heap.size y m d h i s x9 := fun x9 k => ⟨BA8.out.kept k, BB8.out.kept k, D8.out.kept k⟩
  have FIN := Lib.hid fin; have FB := Lib.hid fb
  clear fin fb
  generalize mayB y m d h i s = mb at *
  by_cases hs0 : s = 0
  · subst hs0
    by_cases hi : i = n
    · subst hi
      have hv : (mb && decide ((0 : Int) = 0) && decide (i = i)) = mb := by simp
      rw [hv] at HM
      clear hv
      cases mb
      all_goals
        clear CB8 BA8 BB8 K8 D8
        go_wp2_with fail
        refine HM.out.mono ?_
        rintro e x9 ⟨rfl, k9⟩
        obtain ⟨p9, q9, r9⟩ := FB.out _ k9
        clear e0 e1 e2 e3 e4 e5 e6 e7 e8 e9 v0 v1 v2 v3 v4 v5 v6 v7 v8 v9 u0 u1 u2 u3 u4 u5
        obtain ⟨e0, e1, e2, e3, e4, e5, e6, e7, e8, e9⟩ := cells10 p9
        obtain ⟨v0, v1, v2, v3, v4, v5, v6, v7, v8, v9⟩ := cells10 q9
        obtain ⟨u0, u1, u2, u3, u4, u5⟩ := cells6 r9
        go_wp2
        go_ret
        exact ⟨rfl, FIN.out _ k9⟩
    · have hv : (mb && decide ((0 : Int) = 0) && decide (i = n)) = false := by simp [hi]
      rw [hv] at HM
      clear hv
      cases mb
      all_goals
        clear CB8 BA8 BB8 K8 D8
        go_wp2_with fail
        refine HM.out.mono ?_
        rintro e x9 ⟨rfl, k9⟩
        obtain ⟨p9, q9, r9⟩ := FB.out _ k9
        clear e0 e1 e2 e3 e4 e5 e6 e7 e8 e9 v0 v1 v2 v3 v4 v5 v6 v7 v8 v9 u0 u1 u2 u3 u4 u5
        obtain ⟨e0, e1, e2, e3, e4, e5, e6, e7, e8, e9⟩ := cells10 p9
        obtain ⟨v0, v1, v2, v3, v4, v5, v6, v7, v8, v9⟩ := cells10 q9
        obtain ⟨u0, u1, u2, u3, u4, u5⟩ := cells6 r9
        go_wp2
        go_ret
        first | exact ⟨ret_bool (by simp [hi]), FIN.out _ k9⟩ | exact ⟨rfl, FIN.out _ k9⟩
  · have hv : (mb && decide (s = 0) && decide (i = n)) = false := by simp [hs0]
    rw [hv] at HM
    clear hv
    cases mb
    all_goals
      clear CB8 BA8 BB8 K8 D8
      go_wp2_with fail
      refine HM.out.mono ?_
      rintro e x9 ⟨rfl, k9⟩
      obtain ⟨p9, q9, r9⟩ := FB.out _ k9
      clear e0 e1 e2 e3 e4 e5 e6 e7 e8 e9 v0 v1 v2 v3 v4 v5 v6 v7 v8 v9 u0 u1 u2 u3 u4 u5
      obtain ⟨e0, e1, e2, e3, e4, e5, e6, e7, e8, e9⟩ := cells10 p9
      obtain ⟨v0, v1, v2, v3, v4, v5, v6, v7, v8, v9⟩ := cells10 q9
      obtain ⟨u0, u1, u2, u3, u4, u5⟩ := cells6 r9
      go_wp2
      go_ret
      first | exact ⟨ret_bool (by simp [hs0]), FIN.out _ k9⟩ | exact ⟨rfl, FIN.out _ k9⟩
end Go.Proofs.YtcmdjpgabkjbpaaGreatDoor
