/- A schedule may be, is written, has a day and time, and is the same as another one, as the document says. -/
import Derived.Test.YtcmdjpgabkjbpaaGreatDoorCrRefN
import Derived.Test.YtcmdjpgabkjbpaaGreatDoorCrRefG
import Derived.Test.YtcmdjpgabkjbpaaGreatDoorCrRefF
import Derived.Test.YtcmdjpgabkjbpaaGreatDoorCrFew
import Derived.Test.YtcmdjpgabkjbpaaGreatDoorCrAwake
set_option linter.unusedVariables false
namespace Go.Proofs.YtcmdjpgabkjbpaaGreatDoor
open Go.ChangeShapes Go.WideShapes Go.ChangeAt Go.RowKit
open Crn Civ
/-- what a schedule is written as -/
def wres (c : CR) : ByteArray × Int := if mayC c = true then (⟨(wtxt c).toArray⟩, 0) else (⟨#[]⟩, 1)
theorem write_res {c : CR} {W W' : World} {e : Ending} (h : WritePost c W e W') : e = .returned (.tuple #[.string (wres c).1, .int .i64 (wres c).2]) ∧ Kept W W' := by
  obtain ⟨h1, h2, h3⟩ := h
  refine ⟨?_, h3⟩
  unfold wres
  cases hm : mayC c with
  | true => rw [h1 hm]; rfl
  | false => rw [h2 hm]; rfl
set_option maxRecDepth 100000 in
set_option maxHeartbeats 4000000 in
theorem tells_walk (c : CR) (sc : Nat → Value) (d : CR) (sd : Nat → Value) (y m dd h i s : Int) (w : World) (hc : Cr w sc c.L) (hd : Cr w sd d.L) (htab : Tab w) : Calls Tryz.prog 4 #[crV sc c.st, crV sd d.st, civ y m dd h i s] w fun e w' => e = .returned (.bool true) ∧ Kept w w' := by
  have ka := (Kept.refl w).alloc (.cells (cr10 sc c.st) 27)
  have kb := (Kept.refl (w.alloc (.cells (cr10 sc c.st) 27))).alloc (.cells (cr10 sd d.st) 27)
  have kd := (Kept.refl ((w.alloc (.cells (cr10 sc c.st) 27)).alloc (.cells (cr10 sd d.st) 27))).alloc (.cells #[.int .i64 y, .int .i64 m, .int .i64 dd, .int .i64 h, .int .i64 i, .int .i64 s] 34)
  have k0 := ka.trans (kb.trans kd)
  have A0 := Lib.hid (((Cb.new sc c.st w).kept kb).kept kd)
  have B0 := Lib.hid ((show Cb (w.heap.size + 1) sd d.st _ by simpa using Cb.new sd d.st (w.alloc (.cells (cr10 sc c.st) 27))).kept kd)
  have hs2 : ((w.alloc (.cells (cr10 sc c.st) 27)).alloc (.cells (cr10 sd d.st) 27)).heap.size = w.heap.size + 1 + 1 := by simp
  have D0 := Lib.hid (show Bc (w.heap.size + 1 + 1) y m dd h i s (((w.alloc (.cells (cr10 sc c.st) 27)).alloc (.cells (cr10 sd d.st) 27)).alloc (.cells #[.int .i64 y, .int .i64 m, .int .i64 dd, .int .i64 h, .int .i64 i, .int .i64 s] 34)) by unfold Bc; rw [← hs2]; exact new_block _ _)
  clear hs2
  have CA0 := Lib.hid (hc.kept k0); have CB0 := Lib.hid (hd.kept k0)
  have T0 := Lib.hid ((Tb.start htab).kept k0)
  have K0 := Lib.hid k0
  clear hc hd htab k0 ka kb kd
  go_enter Tryz.func4, Tryz.ntmps4
  go_upto_region 1 with (fail)
  generalize ((w.alloc (.cells (cr10 sc c.st) 27)).alloc (.cells (cr10 sd d.st) 27)).alloc (.cells #[.int .i64 y, .int .i64 m, .int .i64 dd, .int .i64 h, .int .i64 i, .int .i64 s] 34) = x0 at *
  go_wp2_with fail
  refine (awake_yes _ T0.out.tab).mono ?_
  rintro e x1 ⟨rfl, k1⟩
  have A1 := Lib.hid (A0.out.kept k1); have B1 := Lib.hid (B0.out.kept k1); have D1 := Lib.hid (D0.out.kept k1); have CA1 := Lib.hid (CA0.out.kept k1); have CB1 := Lib.hid (CB0.out.kept k1); have T1 := Lib.hid (T0.out.kept k1); have K1 := Lib.hid (K0.out.trans k1)
  clear k1 A0 B0 D0 CA0 CB0 T0 K0
  obtain ⟨e0, e1, e2, e3, e4, e5, e6, e7, e8, e9⟩ := cells10 A1.out
  obtain ⟨v0, v1, v2, v3, v4, v5, v6, v7, v8, v9⟩ := cells10 B1.out
  obtain ⟨u0, u1, u2, u3, u4, u5⟩ := cells6 D1.out
  go_wp2_with fail
  refine (few_any c sc _ CA1.out).mono ?_
  rintro e x2 ⟨rfl, k2⟩
  have A2 := Lib.hid (A1.out.kept k2); have B2 := Lib.hid (B1.out.kept k2); have D2 := Lib.hid (D1.out.kept k2); have CA2 := Lib.hid (CA1.out.kept k2); have CB2 := Lib.hid (CB1.out.kept k2); have T2 := Lib.hid (T1.out.kept k2); have K2 := Lib.hid (K1.out.trans k2)
  clear k2 A1 B1 D1 CA1 CB1 T1 K1
  clear e0 e1 e2 e3 e4 e5 e6 e7 e8 e9 v0 v1 v2 v3 v4 v5 v6 v7 v8 v9 u0 u1 u2 u3 u4 u5
  generalize decide (FewP c) = fc at *
  obtain ⟨e0, e1, e2, e3, e4, e5, e6, e7, e8, e9⟩ := cells10 A2.out
  obtain ⟨v0, v1, v2, v3, v4, v5, v6, v7, v8, v9⟩ := cells10 B2.out
  obtain ⟨u0, u1, u2, u3, u4, u5⟩ := cells6 D2.out
  go_wp2_with fail
  refine (few_any d sd _ CB2.out).mono ?_
  rintro e x3 ⟨rfl, k3⟩
  have A3 := Lib.hid (A2.out.kept k3); have B3 := Lib.hid (B2.out.kept k3); have D3 := Lib.hid (D2.out.kept k3); have CA3 := Lib.hid (CA2.out.kept k3); have CB3 := Lib.hid (CB2.out.kept k3); have T3 := Lib.hid (T2.out.kept k3); have K3 := Lib.hid (K2.out.trans k3)
  clear k3 A2 B2 D2 CA2 CB2 T2 K2
  clear e0 e1 e2 e3 e4 e5 e6 e7 e8 e9 v0 v1 v2 v3 v4 v5 v6 v7 v8 v9 u0 u1 u2 u3 u4 u5
  generalize decide (FewP d) = fd at *
  cases fc with
  | false =>
    cases fd
    all_goals
      go_wp2
      go_ret
      exact ⟨rfl, K3.out⟩
  | true =>
  cases fd with
  | false =>
    go_wp2
    go_ret
    exact ⟨rfl, K3.out⟩
  | true =>
    obtain ⟨e0, e1, e2, e3, e4, e5, e6, e7, e8, e9⟩ := cells10 A3.out
    obtain ⟨v0, v1, v2, v3, v4, v5, v6, v7, v8, v9⟩ := cells10 B3.out
    obtain ⟨u0, u1, u2, u3, u4, u5⟩ := cells6 D3.out
    go_wp2_with fail
    refine (cwrite_any c sc _ CA3.out).mono ?_
    intro e x4 hp
    obtain ⟨rfl, k4⟩ := write_res hp
    clear hp
    have A4 := Lib.hid (A3.out.kept k4); have B4 := Lib.hid (B3.out.kept k4); have D4 := Lib.hid (D3.out.kept k4); have CA4 := Lib.hid (CA3.out.kept k4); have CB4 := Lib.hid (CB3.out.kept k4); have T4 := Lib.hid (T3.out.kept k4); have K4 := Lib.hid (K3.out.trans k4)
    clear k4 A3 B3 D3 CA3 CB3 T3 K3
    clear e0 e1 e2 e3 e4 e5 e6 e7 e8 e9 v0 v1 v2 v3 v4 v5 v6 v7 v8 v9 u0 u1 u2 u3 u4 u5
    obtain ⟨e0, e1, e2, e3, e4, e5, e6, e7, e8, e9⟩ := cells10 A4.out
    obtain ⟨v0, v1, v2, v3, v4, v5, v6, v7, v8, v9⟩ := cells10 B4.out
    obtain ⟨u0, u1, u2, u3, u4, u5⟩ := cells6 D4.out
    go_wp2_with fail
    refine (rwrite_any c sc _ CA4.out).mono ?_
    intro e x5 hp
    obtain ⟨rfl, k5⟩ := write_res hp
    clear hp
    have A5 := Lib.hid (A4.out.kept k5); have B5 := Lib.hid (B4.out.kept k5); have D5 := Lib.hid (D4.out.kept k5); have CA5 := Lib.hid (CA4.out.kept k5); have CB5 := Lib.hid (CB4.out.kept k5); have T5 := Lib.hid (T4.out.kept k5); have K5 := Lib.hid (K4.out.trans k5)
    clear k5 A4 B4 D4 CA4 CB4 T4 K4
    clear e0 e1 e2 e3 e4 e5 e6 e7 e8 e9 v0 v1 v2 v3 v4 v5 v6 v7 v8 v9 u0 u1 u2 u3 u4 u5
    generalize (wres c).1 = wt at *
    generalize (wres c).2 = wn at *
    obtain ⟨e0, e1, e2, e3, e4, e5, e6, e7, e8, e9⟩ := cells10 A5.out
    obtain ⟨v0, v1, v2, v3, v4, v5, v6, v7, v8, v9⟩ := cells10 B5.out
    obtain ⟨u0, u1, u2, u3, u4, u5⟩ := cells6 D5.out
    go_wp2_with fail
    refine (rcmay_any c sc _ CA5.out).mono ?_
    rintro e x6 ⟨rfl, k6⟩
    have A6 := Lib.hid (A5.out.kept k6); have B6 := Lib.hid (B5.out.kept k6); have D6 := Lib.hid (D5.out.kept k6); have CA6 := Lib.hid (CA5.out.kept k6); have CB6 := Lib.hid (CB5.out.kept k6); have T6 := Lib.hid (T5.out.kept k6); have K6 := Lib.hid (K5.out.trans k6)
    clear k6 A5 B5 D5 CA5 CB5 T5 K5
    clear e0 e1 e2 e3 e4 e5 e6 e7 e8 e9 v0 v1 v2 v3 v4 v5 v6 v7 v8 v9 u0 u1 u2 u3 u4 u5
    obtain ⟨e0, e1, e2, e3, e4, e5, e6, e7, e8, e9⟩ := cells10 A6.out
    obtain ⟨v0, v1, v2, v3, v4, v5, v6, v7, v8, v9⟩ := cells10 B6.out
    obtain ⟨u0, u1, u2, u3, u4, u5⟩ := cells6 D6.out
    go_wp2_with fail
    refine (rsame_any c d sc sd _ CA6.out CB6.out).mono ?_
    rintro e x7 ⟨rfl, k7⟩
    have A7 := Lib.hid (A6.out.kept k7); have B7 := Lib.hid (B6.out.kept k7); have D7 := Lib.hid (D6.out.kept k7); have CA7 := Lib.hid (CA6.out.kept k7); have CB7 := Lib.hid (CB6.out.kept k7); have T7 := Lib.hid (T6.out.kept k7); have K7 := Lib.hid (K6.out.trans k7)
    clear k7 A6 B6 D6 CA6 CB6 T6 K6
    clear e0 e1 e2 e3 e4 e5 e6 e7 e8 e9 v0 v1 v2 v3 v4 v5 v6 v7 v8 v9 u0 u1 u2 u3 u4 u5
    obtain ⟨e0, e1, e2, e3, e4, e5, e6, e7, e8, e9⟩ := cells10 A7.out
    obtain ⟨v0, v1, v2, v3, v4, v5, v6, v7, v8, v9⟩ := cells10 B7.out
    obtain ⟨u0, u1, u2, u3, u4, u5⟩ := cells6 D7.out
    go_wp2_with fail
    refine (rmatch_any c sc y m dd h i s _ CA7.out (fun z hz => rcmay_any c sc z hz)).mono ?_
    rintro e x8 ⟨rfl, k8⟩
    have A8 := Lib.hid (A7.out.kept k8); have B8 := Lib.hid (B7.out.kept k8); have D8 := Lib.hid (D7.out.kept k8); have CA8 := Lib.hid (CA7.out.kept k8); have CB8 := Lib.hid (CB7.out.kept k8); have T8 := Lib.hid (T7.out.kept k8); have K8 := Lib.hid (K7.out.trans k8)
    clear k8 A7 B7 D7 CA7 CB7 T7 K7
    clear e0 e1 e2 e3 e4 e5 e6 e7 e8 e9 v0 v1 v2 v3 v4 v5 v6 v7 v8 v9 u0 u1 u2 u3 u4 u5
    obtain ⟨e0, e1, e2, e3, e4, e5, e6, e7, e8, e9⟩ := cells10 A8.out
    obtain ⟨v0, v1, v2, v3, v4, v5, v6, v7, v8, v9⟩ := cells10 B8.out
    obtain ⟨u0, u1, u2, u3, u4, u5⟩ := cells6 D8.out
    go_wp2_with fail
    refine (rday_any c sc y m dd _ CA8.out (fun z hz => rcmay_any c sc z hz)).mono ?_
    rintro e x9 ⟨rfl, k9⟩
    have A9 := Lib.hid (A8.out.kept k9); have B9 := Lib.hid (B8.out.kept k9); have D9 := Lib.hid (D8.out.kept k9); have CA9 := Lib.hid (CA8.out.kept k9); have CB9 := Lib.hid (CB8.out.kept k9); have T9 := Lib.hid (T8.out.kept k9); have K9 := Lib.hid (K8.out.trans k9)
    clear k9 A8 B8 D8 CA8 CB8 T8 K8
    clear e0 e1 e2 e3 e4 e5 e6 e7 e8 e9 v0 v1 v2 v3 v4 v5 v6 v7 v8 v9 u0 u1 u2 u3 u4 u5
    have HMAY := Lib.hid (fun z hz => cmay_any c sc z hz)
    have HSAME := Lib.hid (fun z ha hb => same_any c d sc sd z ha hb)
    have HMATCH := Lib.hid (fun z hz => match_any c sc y m dd h i s z hz)
    have HDAY := Lib.hid (fun z hz => day_any c sc y m dd z hz)
    generalize mayC c = mc at *
    generalize decide (SameP c d) = sm at *
    generalize matchC c y m dd h i s = mt at *
    generalize dayC c y m dd = dy at *
    obtain ⟨e0, e1, e2, e3, e4, e5, e6, e7, e8, e9⟩ := cells10 A9.out
    obtain ⟨v0, v1, v2, v3, v4, v5, v6, v7, v8, v9⟩ := cells10 B9.out
    obtain ⟨u0, u1, u2, u3, u4, u5⟩ := cells6 D9.out
    go_wp2_with fail
    refine (HMAY.out _ CA9.out).mono ?_
    rintro e x10 ⟨rfl, k10⟩
    have A10 := Lib.hid (A9.out.kept k10); have B10 := Lib.hid (B9.out.kept k10); have D10 := Lib.hid (D9.out.kept k10); have CA10 := Lib.hid (CA9.out.kept k10); have CB10 := Lib.hid (CB9.out.kept k10); have T10 := Lib.hid (T9.out.kept k10); have K10 := Lib.hid (K9.out.trans k10)
    clear k10 A9 B9 D9 CA9 CB9 T9 K9
    clear e0 e1 e2 e3 e4 e5 e6 e7 e8 e9 v0 v1 v2 v3 v4 v5 v6 v7 v8 v9 u0 u1 u2 u3 u4 u5
    obtain ⟨e0, e1, e2, e3, e4, e5, e6, e7, e8, e9⟩ := cells10 A10.out
    obtain ⟨v0, v1, v2, v3, v4, v5, v6, v7, v8, v9⟩ := cells10 B10.out
    obtain ⟨u0, u1, u2, u3, u4, u5⟩ := cells6 D10.out
    go_wp2_with fail
    refine (HSAME.out _ CA10.out CB10.out).mono ?_
    rintro e x11 ⟨rfl, k11⟩
    have A11 := Lib.hid (A10.out.kept k11); have B11 := Lib.hid (B10.out.kept k11); have D11 := Lib.hid (D10.out.kept k11); have CA11 := Lib.hid (CA10.out.kept k11); have CB11 := Lib.hid (CB10.out.kept k11); have T11 := Lib.hid (T10.out.kept k11); have K11 := Lib.hid (K10.out.trans k11)
    clear k11 A10 B10 D10 CA10 CB10 T10 K10
    clear e0 e1 e2 e3 e4 e5 e6 e7 e8 e9 v0 v1 v2 v3 v4 v5 v6 v7 v8 v9 u0 u1 u2 u3 u4 u5
    obtain ⟨e0, e1, e2, e3, e4, e5, e6, e7, e8, e9⟩ := cells10 A11.out
    obtain ⟨v0, v1, v2, v3, v4, v5, v6, v7, v8, v9⟩ := cells10 B11.out
    obtain ⟨u0, u1, u2, u3, u4, u5⟩ := cells6 D11.out
    go_wp2_with fail
    refine (HMATCH.out _ CA11.out).mono ?_
    rintro e x12 ⟨rfl, k12⟩
    have A12 := Lib.hid (A11.out.kept k12); have B12 := Lib.hid (B11.out.kept k12); have D12 := Lib.hid (D11.out.kept k12); have CA12 := Lib.hid (CA11.out.kept k12); have CB12 := Lib.hid (CB11.out.kept k12); have T12 := Lib.hid (T11.out.kept k12); have K12 := Lib.hid (K11.out.trans k12)
    clear k12 A11 B11 D11 CA11 CB11 T11 K11
    clear e0 e1 e2 e3 e4 e5 e6 e7 e8 e9 v0 v1 v2 v3 v4 v5 v6 v7 v8 v9 u0 u1 u2 u3 u4 u5
    obtain ⟨e0, e1, e2, e3, e4, e5, e6, e7, e8, e9⟩ := cells10 A12.out
    obtain ⟨v0, v1, v2, v3, v4, v5, v6, v7, v8, v9⟩ := cells10 B12.out
    obtain ⟨u0, u1, u2, u3, u4, u5⟩ := cells6 D12.out
    go_wp2_with fail
    refine (HDAY.out _ CA12.out).mono ?_
    rintro e x13 ⟨rfl, k13⟩
    have A13 := Lib.hid (A12.out.kept k13); have B13 := Lib.hid (B12.out.kept k13); have D13 := Lib.hid (D12.out.kept k13); have CA13 := Lib.hid (CA12.out.kept k13); have CB13 := Lib.hid (CB12.out.kept k13); have T13 := Lib.hid (T12.out.kept k13); have K13 := Lib.hid (K12.out.trans k13)
    clear k13 A12 B12 D12 CA12 CB12 T12 K12
    clear e0 e1 e2 e3 e4 e5 e6 e7 e8 e9 v0 v1 v2 v3 v4 v5 v6 v7 v8 v9 u0 u1 u2 u3 u4 u5
    go_wp2
    go_ret
    exact ⟨rfl, K13.out⟩
end Go.Proofs.YtcmdjpgabkjbpaaGreatDoor
