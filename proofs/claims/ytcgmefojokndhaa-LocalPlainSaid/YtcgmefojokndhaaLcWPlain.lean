/- The law LocalPlain, walked. -/
import Derived.Test.YtcgmefojokndhaaLcAll
namespace Go.Proofs.Ytcgmefojokndhaa
open Go.ChangeShapes Go.WideShapes Go.ChangeAt Go.RowKit
open Civ Zn Lc
theorem offP_two (z : Zo) (t : Int) : offP z t = z.off ∨ z.has = true ∧ offP z t = z.ahead := by
  unfold offP offY
  split
  · rename_i h
    split
    · exact Or.inr ⟨h, rfl⟩
    · exact Or.inl rfl
  · exact Or.inl rfl
set_option maxRecDepth 100000 in
set_option maxHeartbeats 4000000 in
theorem walkPlain (z : Zo) (t : Int) (w : World) (f1 : z.std.length ≤ maxLen) (f2 : z.dst.length ≤ maxLen) (_ : -9223372036854775808 ≤ t) (_ : t ≤ 9223372036854775807) :
    Calls Try.prog 6 #[zoV z, .int .i64 t] w fun e w' => e = .returned (.bool true) ∧ Kept w w' := by
  have B0 := Lib.hid (bz_new w z)
  have K0 := Lib.hid ((Kept.refl w).alloc (.cells (zo15 z.std z.off z.has z.dst z.ahead z.fr.k z.fr.m z.fr.w z.fr.d z.fr.a z.to.k z.to.m z.to.w z.to.d z.to.a) 25))
  go_enter Try.func6, Try.ntmps6
  go_upto_region 1 with (fail)
  generalize w.alloc (.cells (zo15 z.std z.off z.has z.dst z.ahead z.fr.k z.fr.m z.fr.w z.fr.d z.fr.a z.to.k z.to.m z.to.w z.to.d z.to.a) 25) = w0 at *
  go_wp2_with fail
  refine (awake_yes _).mono ?_
  rintro e w1 ⟨rfl, k1⟩
  have B1 := Lib.hid (B0.out.kept k1)
  have K1 := Lib.hid (K0.out.trans k1)
  clear B0 K0 k1
  go_wp2_with (refine wpList_load_row rfl 25 _ rfl w.heap.size rfl 25 _ (0, 0) _ B1.out Try.underlying25 rfl (by kernel_rfl) ?_)
  refine (short_any z _ f1 f2).mono ?_
  rintro e w2 ⟨rfl, k2⟩
  have B2 := Lib.hid (B1.out.kept k2)
  have K2 := Lib.hid (K1.out.trans k2)
  clear B1 K1 k2
  go_wp2_with (refine wpList_load_row rfl 25 _ rfl w.heap.size rfl 25 _ (0, 0) _ B2.out Try.underlying25 rfl (by kernel_rfl) ?_)
  refine (off_any' z t _).mono ?_
  rintro e w3 ⟨rfl, k3⟩
  have B3 := Lib.hid (B2.out.kept k3)
  have K3 := Lib.hid (K2.out.trans k3)
  clear B2 K2 k3
  cases hs : shB z with
  | false =>
    clear hs
    go_wp2
    go_ret
    exact ⟨rfl, K3.out⟩
  | true =>
    clear hs
    by_cases hm : oOk z t = true
    · have HE := Lib.hid (show oE z t = 0 by unfold oE; rw [if_pos hm])
      have HA := Lib.hid (show oA z t = offP z t by unfold oA; rw [if_pos hm])
      have hmm : mayZ z = true ∧ scB t = true := by unfold oOk at hm; simpa using hm
      have tb : 0 ≤ t ∧ t ≤ 253402300799 := by have := hmm.2; simpa [scB] using this
      have HM := Lib.hid hmm
      have ob := offP_bd hmm.1 t
      have tw := offP_two z t
      clear hm hmm
      rw [HE.out, HA.out]
      generalize ho : offP z t = o at *
      have HO := Lib.hid ho; clear ho HA HE
      have c1 := B3.out.cs.c1
      have c2 := B3.out.cs.c2
      have c4 := B3.out.cs.c4
      have B4 := B3; have K4 := K3
      have TW := Lib.hid tw; clear tw
      go_upto_region 6 with (fail)
      go_cut [47] from 69 (fun v x => v = .bool false ∧ w3 = x)
      case first =>
        by_cases h1 : o = z.off
        · have hb : (o != z.off) = false := by simp [h1]
          clear h1
          go_wp2
          go_meet
          exact ⟨rfl, rfl⟩
        · have hb : (o != z.off) = true := by simp [h1]
          have h2 : z.has = true ∧ o = z.ahead := TW.out.resolve_left h1
          have hb2 : (o != z.ahead) = false := by simp [h2.2]
          rw [h2.1] at c2
          clear h1 h2
          go_wp2
          go_meet
          exact ⟨rfl, rfl⟩
      case rest =>
        obtain ⟨rfl, rfl⟩ := hcut
        clear c1 c2 c4 TW
        by_cases hc : inCal (t + o)
        ·   go_wp2_with (refine wpList_load_row rfl 25 _ rfl w.heap.size rfl 25 _ (0, 0) _ B4.out Try.underlying25 rfl (by kernel_rfl) ?_)
            refine (lat_yes z t _ HM.out.1 HM.out.2 (by rw [HO.out]; exact hc)).mono ?_
            rintro e w5 ⟨_, hr, k5⟩
            rw [HO.out] at hr
            subst hr
            have B5 := Lib.hid (B4.out.kept k5)
            have K5 := Lib.hid (K4.out.trans k5)
            clear B4 K4 k5
            have HC := Lib.hid hc; clear hc
            go_upto_region 9 with (fail)
            have k6 := (Kept.refl w5).alloc (.cells #[.int .i64 (yr ((t + o) / 86400)), .int .i64 (mo ((t + o) / 86400)), .int .i64 (dy ((t + o) / 86400)), .int .i64 ((t + o) % 86400 / 3600), .int .i64 ((t + o) % 3600 / 60), .int .i64 ((t + o) % 60)] 35)
            have n6 := new_block w5 (.cells #[.int .i64 (yr ((t + o) / 86400)), .int .i64 (mo ((t + o) / 86400)), .int .i64 (dy ((t + o) / 86400)), .int .i64 ((t + o) % 86400 / 3600), .int .i64 ((t + o) % 3600 / 60), .int .i64 ((t + o) % 60)] 35)
            generalize w5.heap.size = q1 at *
            generalize w5.alloc (.cells #[.int .i64 (yr ((t + o) / 86400)), .int .i64 (mo ((t + o) / 86400)), .int .i64 (dy ((t + o) / 86400)), .int .i64 ((t + o) % 86400 / 3600), .int .i64 ((t + o) % 3600 / 60), .int .i64 ((t + o) % 60)] 35) = w6 at *
            have X6 := Lib.hid n6; clear n6
            have B6 := Lib.hid (B5.out.kept k6)
            have K6 := Lib.hid (K5.out.trans k6)
            clear B5 K5 k6
            go_wp2_with fail
            refine (at_yes _ _ HC.out).mono ?_
            rintro e w7 ⟨_, rfl, k7⟩
            have X7 := Lib.hid ((k7.block _ (Array.getElem?_eq_some_iff.1 X6.out).1).trans X6.out)
            clear X6
            have B7 := Lib.hid (B6.out.kept k7)
            have K7 := Lib.hid (K6.out.trans k7)
            clear B6 K6 k7
            go_upto_region 10 with (fail)
            have k8 := (Kept.refl w7).alloc (.cells #[.int .i64 (yr ((t + o) / 86400)), .int .i64 (mo ((t + o) / 86400)), .int .i64 (dy ((t + o) / 86400)), .int .i64 ((t + o) % 86400 / 3600), .int .i64 ((t + o) % 3600 / 60), .int .i64 ((t + o) % 60)] 35)
            have n8 := new_block w7 (.cells #[.int .i64 (yr ((t + o) / 86400)), .int .i64 (mo ((t + o) / 86400)), .int .i64 (dy ((t + o) / 86400)), .int .i64 ((t + o) % 86400 / 3600), .int .i64 ((t + o) % 3600 / 60), .int .i64 ((t + o) % 60)] 35)
            generalize w7.heap.size = q2 at *
            generalize w7.alloc (.cells #[.int .i64 (yr ((t + o) / 86400)), .int .i64 (mo ((t + o) / 86400)), .int .i64 (dy ((t + o) / 86400)), .int .i64 ((t + o) % 86400 / 3600), .int .i64 ((t + o) % 3600 / 60), .int .i64 ((t + o) % 60)] 35) = w8 at *
            have X8 := (k8.block _ (Array.getElem?_eq_some_iff.1 X7.out).1).trans X7.out
            clear X7
            have B8 := Lib.hid (B7.out.kept k8)
            have K8 := Lib.hid (K7.out.trans k8)
            clear B7 K7 k8
            have d0 := cell_of X8 (j := 0) rfl
            have e0 := cell_of n8 (j := 0) rfl
            have d1 := cell_of X8 (j := 1) rfl
            have e1 := cell_of n8 (j := 1) rfl
            have d2 := cell_of X8 (j := 2) rfl
            have e2 := cell_of n8 (j := 2) rfl
            have d3 := cell_of X8 (j := 3) rfl
            have e3 := cell_of n8 (j := 3) rfl
            have d4 := cell_of X8 (j := 4) rfl
            have e4 := cell_of n8 (j := 4) rfl
            have d5 := cell_of X8 (j := 5) rfl
            have e5 := cell_of n8 (j := 5) rfl
            clear X8 n8
            have hE : ∀ W, (binOp .eql 35 (.agg #[.int .i64 (yr ((t + o) / 86400)), .int .i64 (mo ((t + o) / 86400)), .int .i64 (dy ((t + o) / 86400)), .int .i64 ((t + o) % 86400 / 3600), .int .i64 ((t + o) % 3600 / 60), .int .i64 ((t + o) % 60)]) (.agg #[.int .i64 (yr ((t + o) / 86400)), .int .i64 (mo ((t + o) / 86400)), .int .i64 (dy ((t + o) / 86400)), .int .i64 ((t + o) % 86400 / 3600), .int .i64 ((t + o) % 3600 / 60), .int .i64 ((t + o) % 60)])).run Try.prog W = .ok (.bool true) W := fun W => by
              rw [eql_civ, cvE_iff.2 ⟨rfl, rfl, rfl, rfl, rfl, rfl⟩]
            go_wp2
            go_ret
            exact ⟨rfl, K8.out⟩
        ·   go_wp2_with (refine wpList_load_row rfl 25 _ rfl w.heap.size rfl 25 _ (0, 0) _ B4.out Try.underlying25 rfl (by kernel_rfl) ?_)
            refine (lat_out z t _ HM.out.1 HM.out.2 (by rw [HO.out]; exact hc)).mono ?_
            rintro e w5 ⟨rfl, k5⟩
            have B5 := Lib.hid (B4.out.kept k5)
            have K5 := Lib.hid (K4.out.trans k5)
            clear B4 K4 k5
            have HC := Lib.hid hc; clear hc
            go_upto_region 9 with (fail)
            have k6 := (Kept.refl w5).alloc (.cells #[.int .i64 0, .int .i64 0, .int .i64 0, .int .i64 0, .int .i64 0, .int .i64 0] 35)
            have n6 := new_block w5 (.cells #[.int .i64 0, .int .i64 0, .int .i64 0, .int .i64 0, .int .i64 0, .int .i64 0] 35)
            generalize w5.heap.size = q1 at *
            generalize w5.alloc (.cells #[.int .i64 0, .int .i64 0, .int .i64 0, .int .i64 0, .int .i64 0, .int .i64 0] 35) = w6 at *
            have X6 := Lib.hid n6; clear n6
            have B6 := Lib.hid (B5.out.kept k6)
            have K6 := Lib.hid (K5.out.trans k6)
            clear B5 K5 k6
            go_wp2_with fail
            refine (at_not _ _ (by omega) (by omega) HC.out).mono ?_
            rintro e w7 ⟨rfl, k7⟩
            have X7 := Lib.hid ((k7.block _ (Array.getElem?_eq_some_iff.1 X6.out).1).trans X6.out)
            clear X6
            have B7 := Lib.hid (B6.out.kept k7)
            have K7 := Lib.hid (K6.out.trans k7)
            clear B6 K6 k7
            go_upto_region 10 with (fail)
            have k8 := (Kept.refl w7).alloc (.cells #[.int .i64 0, .int .i64 0, .int .i64 0, .int .i64 0, .int .i64 0, .int .i64 0] 35)
            have n8 := new_block w7 (.cells #[.int .i64 0, .int .i64 0, .int .i64 0, .int .i64 0, .int .i64 0, .int .i64 0] 35)
            generalize w7.heap.size = q2 at *
            generalize w7.alloc (.cells #[.int .i64 0, .int .i64 0, .int .i64 0, .int .i64 0, .int .i64 0, .int .i64 0] 35) = w8 at *
            have X8 := (k8.block _ (Array.getElem?_eq_some_iff.1 X7.out).1).trans X7.out
            clear X7
            have B8 := Lib.hid (B7.out.kept k8)
            have K8 := Lib.hid (K7.out.trans k8)
            clear B7 K7 k8
            have d0 := cell_of X8 (j := 0) rfl
            have e0 := cell_of n8 (j := 0) rfl
            have d1 := cell_of X8 (j := 1) rfl
            have e1 := cell_of n8 (j := 1) rfl
            have d2 := cell_of X8 (j := 2) rfl
            have e2 := cell_of n8 (j := 2) rfl
            have d3 := cell_of X8 (j := 3) rfl
            have e3 := cell_of n8 (j := 3) rfl
            have d4 := cell_of X8 (j := 4) rfl
            have e4 := cell_of n8 (j := 4) rfl
            have d5 := cell_of X8 (j := 5) rfl
            have e5 := cell_of n8 (j := 5) rfl
            clear X8 n8
            have hE : ∀ W, (binOp .eql 35 (.agg #[.int .i64 0, .int .i64 0, .int .i64 0, .int .i64 0, .int .i64 0, .int .i64 0]) (.agg #[.int .i64 0, .int .i64 0, .int .i64 0, .int .i64 0, .int .i64 0, .int .i64 0])).run Try.prog W = .ok (.bool true) W := fun W => by
              rw [eql_civ, cvE_iff.2 ⟨rfl, rfl, rfl, rfl, rfl, rfl⟩]
            go_wp2
            go_ret
            exact ⟨rfl, K8.out⟩
    · have HE := Lib.hid (show oE z t = 1 by unfold oE; rw [if_neg hm])
      clear hm
      rw [HE.out]
      go_wp2
      go_ret
      exact ⟨rfl, K3.out⟩
end Go.Proofs.Ytcgmefojokndhaa
