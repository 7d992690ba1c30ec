/- Contracts of the document's answer for layer 4: a rule's day. -/
import Derived.Test.YtcgmefojokndhaaLcFns
import Derived.Test.YtcgmefojokndhaaCivRef
import Derived.Test.YtcgmefojokndhaaBsZnRef
namespace Go.Proofs.Ytcgmefojokndhaa
open Go.ChangeShapes Go.WideShapes Go.ChangeAt Go.RowKit
open Civ Zn Lc
def aa (F d : Int) : Int := (d - (F + 4) % 7 + 7) % 7
def sn (F d w x : Int) : Int := if (x + 6 - aa F d) / 7 < w then (x + 6 - aa F d) / 7 else w
def an (F d w x : Int) : Int := if sn F d w x = 0 then 0 else F + aa F d + (sn F d w x - 1) * 7
theorem sn_0 (F d w : Int) (hw : 1 ≤ w) : sn F d w 0 = 0 ∧ an F d w 0 = 0 := by
  have h : sn F d w 0 = 0 := by
    have ha : 0 ≤ aa F d ∧ aa F d ≤ 6 := by unfold aa; omega
    unfold sn; split <;> omega
  exact ⟨h, by unfold an; rw [if_pos h]⟩
theorem sn_hit (F d w x : Int) (_hd : 0 ≤ d ∧ d ≤ 6) (hw : 1 ≤ w) (hx : 0 ≤ x) (h : (F + x + 4) % 7 = d) (hs : sn F d w x < w) : sn F d w (x + 1) = sn F d w x + 1 ∧ an F d w (x + 1) = F + x := by
  have ha : aa F d = (d - (F + 4) % 7 + 7) % 7 := rfl
  have hc : (x + 1 + 6 - aa F d) / 7 = (x + 6 - aa F d) / 7 + 1 := by omega
  have hx7 : x = aa F d + 7 * ((x + 6 - aa F d) / 7) := by omega
  unfold an
  unfold sn at hs ⊢
  rw [hc]
  generalize (x + 6 - aa F d) / 7 = c at *
  by_cases q : c < w
  · rw [if_pos q] at hs ⊢
    by_cases q2 : c + 1 < w
    · rw [if_pos q2, if_neg (by omega)]; omega
    · rw [if_neg q2, if_neg (by omega)]; omega
  · rw [if_neg q] at hs; omega
theorem sn_miss (F d w x : Int) (hd : 0 ≤ d ∧ d ≤ 6) (_hw : 1 ≤ w) (h : (F + x + 4) % 7 ≠ d ∨ w ≤ sn F d w x) : sn F d w (x + 1) = sn F d w x ∧ an F d w (x + 1) = an F d w x := by
  have ha : aa F d = (d - (F + 4) % 7 + 7) % 7 := rfl
  have h1 : sn F d w (x + 1) = sn F d w x := by
    rcases h with h | h
    · unfold sn
      split <;> split <;> omega
    · unfold sn at h ⊢
      split at h
      · omega
      · rename_i hq
        rw [if_neg hq, if_neg (by omega)]
  exact ⟨h1, by unfold an; rw [h1]⟩
theorem sn_bd (F d w x : Int) (hw : 1 ≤ w) (hx : 0 ≤ x) : 0 ≤ sn F d w x ∧ sn F d w x ≤ w := by
  have ha : 0 ≤ aa F d ∧ aa F d ≤ 6 := by unfold aa; omega
  unfold sn; split <;> omega
theorem an_end (F L d w : Int) (hL1 : 28 ≤ L) (hL2 : L ≤ 31) (hw1 : 1 ≤ w) (hw2 : w ≤ 5) : an F d w L = nth F L w d := by
  have ha : 0 ≤ aa F d ∧ aa F d ≤ 6 := by unfold aa; omega
  have hn : nth F L w d = if F + aa F d + (w - 1) * 7 ≥ F + L then F + aa F d + (w - 1) * 7 - 7 else F + aa F d + (w - 1) * 7 := rfl
  rw [hn]
  unfold an sn
  split <;> split <;> first | omega | (split <;> omega)
set_option maxRecDepth 100000 in
set_option maxHeartbeats 4000000 in
theorem rDay_nth (r : Ru) (y : Int) (w : World) (h1 : 1960 ≤ y) (h2 : y ≤ 10010) (hr : mayR r = true) (k2 : r.k = 2) (m1 : 1 ≤ r.m) (m2 : r.m ≤ 12) (w1 : 1 ≤ r.w) (w2 : r.w ≤ 5) (d1 : 0 ≤ r.d) (d2 : r.d ≤ 6) :
    Calls Try.prog 12 #[ruV r, .int .i64 y] w fun e w' => e = .returned (.tuple #[.int .i64 (nth (first y r.m) (dim y r.m) r.w r.d), .int .i64 0]) ∧ Kept w w' := by
  have HR := Lib.hid hr; have HK := Lib.hid k2; clear hr k2
  have B0 := Lib.hid (br_new w r)
  have K0 := Lib.hid ((Kept.refl w).alloc (.cells #[.int .i64 r.k, .int .i64 r.m, .int .i64 r.w, .int .i64 r.d, .int .i64 r.a] 23))
  go_enter Try.func12, Try.ntmps12
  go_upto_region 1 with (fail)
  generalize w.alloc (.cells #[.int .i64 r.k, .int .i64 r.m, .int .i64 r.w, .int .i64 r.d, .int .i64 r.a] 23) = x at *
  have c0 := B0.out.c0
  have c1 := B0.out.c1
  have c2 := B0.out.c2
  have c3 := B0.out.c3
  have c4 := B0.out.c4
  go_wp2_with fail
  refine (rRule_any r _).mono ?_
  rintro e x1 ⟨rfl, k1⟩
  rw [HR.out]
  have B1 := B0.out.kept k1
  have K1 := Lib.hid (K0.out.trans k1)
  clear c0 c1 c2 c3 c4 B0 K0 k1
  have c0 := B1.c0
  rw [HK.out] at c0
  have c1 := B1.c1
  have c2 := B1.c2
  have c3 := B1.c3
  go_wp2_with fail
  refine (rstart_any y _ (by omega) (by omega)).mono ?_
  rintro e w' ⟨rfl, rfl⟩
  go_wp2_with fail
  refine (rleap_any y _).mono ?_
  rintro e w' ⟨rfl, rfl⟩
  go_wp2_with fail
  have e2 := first_bd y r.m h1 h2 m1 (by omega)
  have hF := Lib.hid (fun k : Int => fun (a : 1 ≤ k) (b : k ≤ 12) => first_dim y k a b)
  have hS := fun k : Int => fun (a : 1 ≤ k) (b : k ≤ 13) => first_bd y k h1 h2 a b
  have HS := Lib.hid hS; clear hS
  go_loop [7, 9] (fun a b => ∃ k : Int, 1 ≤ k ∧ k ≤ r.m ∧ a = .int .i64 (first y k) ∧ b = .int .i64 k) (fun _ b => (r.m - intOf b).toNat)
  case atStart => exact ⟨1, by omega, m1, by unfold first; rw [cum_1, Int.add_zero], rfl⟩
  case round =>
    obtain ⟨k, q1, q2, rfl, rfl⟩ := hrel
    by_cases hlt : k < r.m
    · have f1 := HS.out k q1 (by omega)
      have f2 := HS.out (k + 1) (by omega) (by omega)
      have f3 := hF.out k q1 (by omega)
      go_wp2_with fail
      refine (rdays_any y k _).mono ?_
      rintro e w' ⟨rfl, rfl⟩
      go_wp2
      go_round
      case rel => exact ⟨k + 1, by omega, by omega, by rw [f3], by go_num⟩
      case measure => simp [intOf]; omega
    · obtain rfl : k = r.m := by omega
      have hL := dim_in y r.m m1 m2
      have HD := Lib.hid (an_end (first y r.m) (dim y r.m) r.d r.w hL.1 hL.2 w1 w2)
      go_wp2_with fail
      generalize hFF : first y r.m = F at *
      generalize hLL : dim y r.m = L at *
      go_loopw [10, 11, 12] (fun a b c z => ∃ p : Int, 0 ≤ p ∧ p ≤ L ∧ a = .int .i64 (sn F r.d r.w p) ∧ b = .int .i64 (an F r.d r.w p) ∧ c = .int .i64 p ∧ Kept x1 z) (fun _ _ c _ => (L - intOf c).toNat)
      case atStart => exact ⟨0, by omega, by omega, by rw [(sn_0 F r.d r.w w1).1], by rw [(sn_0 F r.d r.w w1).2], rfl, Kept.refl _⟩
      case round =>
        obtain ⟨p, p1, p2, rfl, rfl, rfl, hkp⟩ := hrel
        have Bp := B1.kept hkp
        have sb := sn_bd F r.d r.w p w1 p1
        have g1 := Bp.c1
        have g2 := Bp.c2
        have g3 := Bp.c3
        go_wp2_with fail
        refine (rdays_any y r.m _).mono ?_
        rintro e w' ⟨rfl, rfl⟩
        rw [hLL]
        by_cases hlp : p < L
        · have hwd : wd (F + p) = (F + p + 4) % 7 := by unfold wd; rw [if_neg (by omega)]
          have HP := Lib.hid hkp
          have hww := Lib.hid (show IntKind.i64.wrap (F + p) = F + p by simp only [IntKind.wrap_i64]; omega)
          by_cases hq : (F + p + 4) % 7 = r.d
          · have HW := Lib.hid (show wd (IntKind.i64.wrap (F + p)) = r.d by rw [hww.out, hwd, hq])
            have HQ := Lib.hid hq
            clear hwd hq
            go_wp2_with fail
            go_region_held3 (fun z => Kept x1 z ∧ z.cell? ⟨w.heap.size, 3, none⟩ = some (.int .i64 r.d) ∧ z.cell? ⟨w.heap.size, 2, none⟩ = some (.int .i64 r.w)) (first | exact ⟨HP.out.drew, g3, g2⟩ | assumption)
              (first | (go_at_call 38; refine (rwday_any _ _).mono ?_; rintro e w' ⟨rfl, rfl⟩; rw [HW.out]))
            rw [hww.out]
            by_cases hs : sn F r.d r.w p < r.w
            · have q := sn_hit F r.d r.w p ⟨d1, d2⟩ w1 p1 HQ.out hs
              have Q := Lib.hid q; clear q
              go_wp2
              go_roundw
              case rel => exact ⟨p + 1, by omega, by omega, by rw [Q.out.1], by rw [Q.out.2], by go_num, (by assumption : Kept x1 _ ∧ _).1⟩
              case measure => simp [intOf]; omega
            · have q := sn_miss F r.d r.w p ⟨d1, d2⟩ w1 (Or.inr (by omega))
              have Q := Lib.hid q; clear q
              go_wp2
              go_roundw
              case rel => exact ⟨p + 1, by omega, by omega, by rw [Q.out.1], by rw [Q.out.2], by go_num, (by assumption : Kept x1 _ ∧ _).1⟩
              case measure => simp [intOf]; omega
          · have HW := Lib.hid (show wd (IntKind.i64.wrap (F + p)) = (F + p + 4) % 7 by rw [hww.out, hwd])
            have q := sn_miss F r.d r.w p ⟨d1, d2⟩ w1 (Or.inl hq)
            have Q := Lib.hid q; clear q
            have hb : ((F + p + 4) % 7 == r.d) = false := by simpa using hq
            clear hwd hww hq
            generalize (F + p + 4) % 7 = q at *
            go_wp2_with fail
            have hP := HP.out
            first | (go_region_with (first | (go_at_call 38; refine (rwday_any _ _).mono ?_; rintro e w' ⟨rfl, rfl⟩; rw [HW.out]))) | fail
            all_goals
              go_wp2
              go_roundw
              case rel => exact ⟨p + 1, by omega, by omega, by rw [Q.out.1], by rw [Q.out.2], by go_num, HP.out.drew⟩
              case measure => simp [intOf]; omega
        · obtain rfl : p = L := by omega
          have KP := hkp
          have FF := Lib.hid hFF; have LL := Lib.hid hLL
          go_wp2
          go_ret2
          have hd := HD.out
          exact ⟨by rw [FF.out, LL.out, ← hd]; rfl, K1.out.trans KP⟩
end Go.Proofs.Ytcgmefojokndhaa
