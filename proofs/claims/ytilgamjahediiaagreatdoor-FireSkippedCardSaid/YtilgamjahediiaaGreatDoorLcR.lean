/- Several texts of this seat, one behind the other. -/
import Derived.Test.YtilgamjahediiaaGreatDoorLcP
import Derived.Test.YtilgamjahediiaaGreatDoorCivA
import Derived.Test.YtilgamjahediiaaGreatDoorBsZnRef
import Derived.Test.YtilgamjahediiaaGreatDoorLcT
import Derived.Test.YtilgamjahediiaaGreatDoorBsStRef
/- Contracts of the document's answer for layer 4: a rule's day. -/
namespace Go.Proofs.YtilgamjahediiaaGreatDoor
open Go.ChangeShapes Go.WideShapes Go.ChangeAt Go.RowKit
open Civ Zn Lc
def aa (F d : Int) : Int := (d - (F + 4) % 7 + 7) % 7
def sn (F d w x : Int) : Int := if (x + 6 - aa F d) / 7 < w then (x + 6 - aa F d) / 7 else w
def an (F d w x : Int) : Int := if sn F d w x = 0 then 0 else F + aa F d + (sn F d w x - 1) * 7
theorem sn_0 (F d w : Int) (hw : 1 ≤ w) : sn F d w 0 = 0 ∧ an F d w 0 = 0 := by
  have h : sn F d w 0 = 0 := by
    have ha : 0 ≤ aa F d ∧ aa F d ≤ 6 := by unfold aa; omega
    unfold sn; split <;> omega
  exact ⟨h, by unfold an; rw [if_pos h]⟩
theorem sn_hit (F d w x : Int) (_hd : 0 ≤ d ∧ d ≤ 6) (hw : 1 ≤ w) (hx : 0 ≤ x) (h : (F + x + 4) % 7 = d) (hs : sn F d w x < w) : sn F d w (x + 1) = sn F d w x + 1 ∧ an F d w (x + 1) = F + x := by
  have ha : aa F d = (d - (F + 4) % 7 + 7) % 7 := rfl
  have hc : (x + 1 + 6 - aa F d) / 7 = (x + 6 - aa F d) / 7 + 1 := by omega
  have hx7 : x = aa F d + 7 * ((x + 6 - aa F d) / 7) := by omega
  unfold an
  unfold sn at hs ⊢
  rw [hc]
  generalize (x + 6 - aa F d) / 7 = c at *
  by_cases q : c < w
  · rw [if_pos q] at hs ⊢
    by_cases q2 : c + 1 < w
    · rw [if_pos q2, if_neg (by omega)]; omega
    · rw [if_neg q2, if_neg (by omega)]; omega
  · rw [if_neg q] at hs; omega
theorem sn_miss (F d w x : Int) (hd : 0 ≤ d ∧ d ≤ 6) (_hw : 1 ≤ w) (h : (F + x + 4) % 7 ≠ d ∨ w ≤ sn F d w x) : sn F d w (x + 1) = sn F d w x ∧ an F d w (x + 1) = an F d w x := by
  have ha : aa F d = (d - (F + 4) % 7 + 7) % 7 := rfl
  have h1 : sn F d w (x + 1) = sn F d w x := by
    rcases h with h | h
    · unfold sn
      split <;> split <;> omega
    · unfold sn at h ⊢
      split at h
      · omega
      · rename_i hq
        rw [if_neg hq, if_neg (by omega)]
  exact ⟨h1, by unfold an; rw [h1]⟩
theorem sn_bd (F d w x : Int) (hw : 1 ≤ w) (hx : 0 ≤ x) : 0 ≤ sn F d w x ∧ sn F d w x ≤ w := by
  have ha : 0 ≤ aa F d ∧ aa F d ≤ 6 := by unfold aa; omega
  unfold sn; split <;> omega
theorem an_end (F L d w : Int) (hL1 : 28 ≤ L) (hL2 : L ≤ 31) (hw1 : 1 ≤ w) (hw2 : w ≤ 5) : an F d w L = nth F L w d := by
  have ha : 0 ≤ aa F d ∧ aa F d ≤ 6 := by unfold aa; omega
  have hn : nth F L w d = if F + aa F d + (w - 1) * 7 ≥ F + L then F + aa F d + (w - 1) * 7 - 7 else F + aa F d + (w - 1) * 7 := rfl
  rw [hn]
  unfold an sn
  split <;> split <;> first | omega | (split <;> omega)
set_option maxRecDepth 100000 in
set_option maxHeartbeats 4000000 in
theorem rDay_nth (r : Ru) (y : Int) (w : World) (h1 : 1960 ≤ y) (h2 : y ≤ 10010) (hr : mayR r = true) (k2 : r.k = 2) (m1 : 1 ≤ r.m) (m2 : r.m ≤ 12) (w1 : 1 ≤ r.w) (w2 : r.w ≤ 5) (d1 : 0 ≤ r.d) (d2 : r.d ≤ 6) :
    Calls Tryz.prog 88 #[ruV r, .int .i64 y] w fun e w' => e = .returned (.tuple #[.int .i64 (nth (first y r.m) (dim y r.m) r.w r.d), .int .i64 0]) ∧ Kept w w' := by
  have HR := Lib.hid hr; have HK := Lib.hid k2; clear hr k2
  have B0 := Lib.hid (br_new w r)
  have K0 := Lib.hid ((Kept.refl w).alloc (.cells #[.int .i64 r.k, .int .i64 r.m, .int .i64 r.w, .int .i64 r.d, .int .i64 r.a] 23))
  go_enter Tryz.func88, Tryz.ntmps88
  go_upto_region 1 with (fail)
  generalize w.alloc (.cells #[.int .i64 r.k, .int .i64 r.m, .int .i64 r.w, .int .i64 r.d, .int .i64 r.a] 23) = x at *
  have c0 := B0.out.c0
  have c1 := B0.out.c1
  have c2 := B0.out.c2
  have c3 := B0.out.c3
  have c4 := B0.out.c4
  go_wp2_with fail
  refine (rRule_any r _).mono ?_
  rintro e x1 ⟨rfl, k1⟩
  rw [HR.out]
  have B1 := B0.out.kept k1
  have K1 := Lib.hid (K0.out.trans k1)
  clear c0 c1 c2 c3 c4 B0 K0 k1
  have c0 := B1.c0
  rw [HK.out] at c0
  have c1 := B1.c1
  have c2 := B1.c2
  have c3 := B1.c3
  go_wp2_with fail
  refine (rstart_any y _ (by omega) (by omega)).mono ?_
  rintro e w' ⟨rfl, rfl⟩
  go_wp2_with fail
  refine (rleap_any y _).mono ?_
  rintro e w' ⟨rfl, rfl⟩
  go_wp2_with fail
  have e2 := first_bd y r.m h1 h2 m1 (by omega)
  have hF := Lib.hid (fun k : Int => fun (a : 1 ≤ k) (b : k ≤ 12) => first_dim y k a b)
  have hS := fun k : Int => fun (a : 1 ≤ k) (b : k ≤ 13) => first_bd y k h1 h2 a b
  have HS := Lib.hid hS; clear hS
  go_loop [7, 9] (fun a b => ∃ k : Int, 1 ≤ k ∧ k ≤ r.m ∧ a = .int .i64 (first y k) ∧ b = .int .i64 k) (fun _ b => (r.m - intOf b).toNat)
  case atStart => exact ⟨1, by omega, m1, by unfold first; rw [cum_1, Int.add_zero], rfl⟩
  case round =>
    obtain ⟨k, q1, q2, rfl, rfl⟩ := hrel
    by_cases hlt : k < r.m
    · have f1 := HS.out k q1 (by omega)
      have f2 := HS.out (k + 1) (by omega) (by omega)
      have f3 := hF.out k q1 (by omega)
      go_wp2_with fail
      refine (rdays_any y k _).mono ?_
      rintro e w' ⟨rfl, rfl⟩
      go_wp2
      go_round
      case rel => exact ⟨k + 1, by omega, by omega, by rw [f3], by go_num⟩
      case measure => simp [intOf]; omega
    · obtain rfl : k = r.m := by omega
      have hL := dim_in y r.m m1 m2
      have HD := Lib.hid (an_end (first y r.m) (dim y r.m) r.d r.w hL.1 hL.2 w1 w2)
      go_wp2_with fail
      generalize hFF : first y r.m = F at *
      generalize hLL : dim y r.m = L at *
      go_loopw [10, 11, 12] (fun a b c z => ∃ p : Int, 0 ≤ p ∧ p ≤ L ∧ a = .int .i64 (sn F r.d r.w p) ∧ b = .int .i64 (an F r.d r.w p) ∧ c = .int .i64 p ∧ Kept x1 z) (fun _ _ c _ => (L - intOf c).toNat)
      case atStart => exact ⟨0, by omega, by omega, by rw [(sn_0 F r.d r.w w1).1], by rw [(sn_0 F r.d r.w w1).2], rfl, Kept.refl _⟩
      case round =>
        obtain ⟨p, p1, p2, rfl, rfl, rfl, hkp⟩ := hrel
        have Bp := B1.kept hkp
        have sb := sn_bd F r.d r.w p w1 p1
        have g1 := Bp.c1
        have g2 := Bp.c2
        have g3 := Bp.c3
        go_wp2_with fail
        refine (rdays_any y r.m _).mono ?_
        rintro e w' ⟨rfl, rfl⟩
        rw [hLL]
        by_cases hlp : p < L
        · have hwd : wd (F + p) = (F + p + 4) % 7 := by unfold wd; rw [if_neg (by omega)]
          have HP := Lib.hid hkp
          have hww := Lib.hid (show IntKind.i64.wrap (F + p) = F + p by simp only [IntKind.wrap_i64]; omega)
          by_cases hq : (F + p + 4) % 7 = r.d
          · have HW := Lib.hid (show wd (IntKind.i64.wrap (F + p)) = r.d by rw [hww.out, hwd, hq])
            have HQ := Lib.hid hq
            clear hwd hq
            go_wp2_with fail
            go_region_held3 (fun z => Kept x1 z ∧ z.cell? ⟨w.heap.size, 3, none⟩ = some (.int .i64 r.d) ∧ z.cell? ⟨w.heap.size, 2, none⟩ = some (.int .i64 r.w)) (first | exact ⟨HP.out.drew, g3, g2⟩ | assumption)
              (first | (go_at_call 92; refine (rwday_any _ _).mono ?_; rintro e w' ⟨rfl, rfl⟩; rw [HW.out]))
            rw [hww.out]
            by_cases hs : sn F r.d r.w p < r.w
            · have q := sn_hit F r.d r.w p ⟨d1, d2⟩ w1 p1 HQ.out hs
              have Q := Lib.hid q; clear q
              go_wp2
              go_roundw
              case rel => exact ⟨p + 1, by omega, by omega, by rw [Q.out.1], by rw [Q.out.2], by go_num, (by assumption : Kept x1 _ ∧ _).1⟩
              case measure => simp [intOf]; omega
            · have q := sn_miss F r.d r.w p ⟨d1, d2⟩ w1 (Or.inr (by omega))
              have Q := Lib.hid q; clear q
              go_wp2
              go_roundw
              case rel => exact ⟨p + 1, by omega, by omega, by rw [Q.out.1], by rw [Q.out.2], by go_num, (by assumption : Kept x1 _ ∧ _).1⟩
              case measure => simp [intOf]; omega
          · have HW := Lib.hid (show wd (IntKind.i64.wrap (F + p)) = (F + p + 4) % 7 by rw [hww.out, hwd])
            have q := sn_miss F r.d r.w p ⟨d1, d2⟩ w1 (Or.inl hq)
            have Q := Lib.hid q; clear q
            have hb : ((F + p + 4) % 7 == r.d) = false := by simpa using hq
            clear hwd hww hq
            generalize (F + p + 4) % 7 = q at *
            go_wp2_with fail
            have hP := HP.out
            first | (go_region_with (first | (go_at_call 92; refine (rwday_any _ _).mono ?_; rintro e w' ⟨rfl, rfl⟩; rw [HW.out]))) | fail
            all_goals
              go_wp2
              go_roundw
              case rel => exact ⟨p + 1, by omega, by omega, by rw [Q.out.1], by rw [Q.out.2], by go_num, HP.out.drew⟩
              case measure => simp [intOf]; omega
        · obtain rfl : p = L := by omega
          have KP := hkp
          have FF := Lib.hid hFF; have LL := Lib.hid hLL
          go_wp2
          go_ret2
          have hd := HD.out
          exact ⟨by rw [FF.out, LL.out, ← hd]; rfl, K1.out.trans KP⟩
end Go.Proofs.YtilgamjahediiaaGreatDoor
/- Contracts of the document's answer for layer 4: a rule's day, a year's turns. -/
namespace Go.Proofs.YtilgamjahediiaaGreatDoor
open Go.ChangeShapes Go.WideShapes Go.ChangeAt Go.RowKit
open Civ Zn Lc
theorem dby_first (y : Int) : dby y - 719162 = first y 1 := by unfold first; rw [cum_1]; omega
set_option maxHeartbeats 1000000 in
theorem rDay_zero (r : Ru) (y : Int) (w : World) (h1 : 1960 ≤ y) (h2 : y ≤ 10010) (hr : mayR r = true) (k1 : r.k = 1) (d1 : 0 ≤ r.d) (d2 : r.d ≤ 365) :
    Calls Tryz.prog 88 #[ruV r, .int .i64 y] w fun e w' => e = .returned (.tuple #[.int .i64 (first y 1 + r.d), .int .i64 0]) ∧ Kept w w' := by
  have HR := Lib.hid hr; have HK := Lib.hid k1; clear hr k1
  have B0 := Lib.hid (br_new w r)
  have K0 := Lib.hid ((Kept.refl w).alloc (.cells #[.int .i64 r.k, .int .i64 r.m, .int .i64 r.w, .int .i64 r.d, .int .i64 r.a] 23))
  go_enter Tryz.func88, Tryz.ntmps88
  go_upto_region 1 with (fail)
  generalize w.alloc (.cells #[.int .i64 r.k, .int .i64 r.m, .int .i64 r.w, .int .i64 r.d, .int .i64 r.a] 23) = x at *
  have c0 := B0.out.c0
  have c1 := B0.out.c1
  have c2 := B0.out.c2
  have c3 := B0.out.c3
  have c4 := B0.out.c4
  go_wp2_with fail
  refine (rRule_any r _).mono ?_
  rintro e x1 ⟨rfl, k1⟩
  rw [HR.out]
  have B1 := B0.out.kept k1
  have K1 := Lib.hid (K0.out.trans k1)
  clear c0 c1 c2 c3 c4 B0 K0 k1
  have c0 := B1.c0
  rw [HK.out] at c0
  have c3 := B1.c3
  go_wp2_with fail
  refine (rstart_any y _ (by omega) (by omega)).mono ?_
  rintro e w' ⟨rfl, rfl⟩
  go_wp2_with fail
  refine (rleap_any y _).mono ?_
  rintro e w' ⟨rfl, rfl⟩
  have e2 := first_bd y 1 h1 h2 (by omega) (by omega)
  rw [dby_first]
  go_wp2
  go_ret2
  exact ⟨rfl, K1.out⟩
set_option maxHeartbeats 1000000 in
theorem rDay_julian (r : Ru) (y : Int) (w : World) (h1 : 1960 ≤ y) (h2 : y ≤ 10010) (hr : mayR r = true) (k1 : r.k = 0) (d1 : 1 ≤ r.d) (d2 : r.d ≤ 365) :
    Calls Tryz.prog 88 #[ruV r, .int .i64 y] w fun e w' => e = .returned (.tuple #[.int .i64 (julian y r.d), .int .i64 0]) ∧ Kept w w' := by
  have HR := Lib.hid hr; have HK := Lib.hid k1; clear hr k1
  have B0 := Lib.hid (br_new w r)
  have K0 := Lib.hid ((Kept.refl w).alloc (.cells #[.int .i64 r.k, .int .i64 r.m, .int .i64 r.w, .int .i64 r.d, .int .i64 r.a] 23))
  go_enter Tryz.func88, Tryz.ntmps88
  go_upto_region 1 with (fail)
  generalize w.alloc (.cells #[.int .i64 r.k, .int .i64 r.m, .int .i64 r.w, .int .i64 r.d, .int .i64 r.a] 23) = x at *
  have c0 := B0.out.c0
  have c1 := B0.out.c1
  have c2 := B0.out.c2
  have c3 := B0.out.c3
  have c4 := B0.out.c4
  go_wp2_with fail
  refine (rRule_any r _).mono ?_
  rintro e x1 ⟨rfl, k1⟩
  rw [HR.out]
  have B1 := B0.out.kept k1
  have K1 := Lib.hid (K0.out.trans k1)
  clear c0 c1 c2 c3 c4 B0 K0 k1
  have c0 := B1.c0
  rw [HK.out] at c0
  have c3 := B1.c3
  go_wp2_with fail
  refine (rstart_any y _ (by omega) (by omega)).mono ?_
  rintro e w' ⟨rfl, rfl⟩
  go_wp2_with fail
  refine (rleap_any y _).mono ?_
  rintro e w' ⟨rfl, rfl⟩
  have e2 := first_bd y 1 h1 h2 (by omega) (by omega)
  rw [dby_first]
  cases hl : leap y with
  | true =>
    by_cases h60 : 60 ≤ r.d
    · have HJ := Lib.hid (show julian y r.d = first y 1 + r.d by simp only [julian, hl, h60]; simp; omega)
      clear hl
      go_wp2
      go_ret2
      exact ⟨by rw [HJ.out]; rfl, K1.out⟩
    · have HJ := Lib.hid (show julian y r.d = first y 1 + r.d - 1 by simp [julian, h60])
      clear hl
      go_wp2
      go_ret2
      exact ⟨by rw [HJ.out]; rfl, K1.out⟩
  | false =>
    have HJ := Lib.hid (show julian y r.d = first y 1 + r.d - 1 by simp [julian, hl])
    clear hl
    go_wp2
    go_ret2
    exact ⟨by rw [HJ.out]; rfl, K1.out⟩
theorem rDay_yes (r : Ru) (y : Int) (w : World) (hy : yrB y = true) (hr : mayR r = true) :
    Calls Tryz.prog 88 #[ruV r, .int .i64 y] w fun e w' => e = .returned (.tuple #[.int .i64 (dayN r y), .int .i64 0]) ∧ Kept w w' := by
  have hb : 1960 ≤ y ∧ y ≤ 10010 := by simpa [yrB] using hy
  obtain ⟨_, _, h0 | h0 | h0⟩ := may_day hr
  · rw [show dayN r y = julian y r.d by simp only [dayN, h0.1, if_true]]
    exact rDay_julian r y w hb.1 hb.2 hr h0.1 h0.2.1 h0.2.2
  · rw [show dayN r y = first y 1 + r.d by simp [dayN, h0.1]]
    exact rDay_zero r y w hb.1 hb.2 hr h0.1 h0.2.1 h0.2.2
  · obtain ⟨k, m1, m2, w1, w2, d1, d2⟩ := h0
    rw [show dayN r y = nth (first y r.m) (dim y r.m) r.w r.d by simp [dayN, k]]
    exact rDay_nth r y w hb.1 hb.2 hr k m1 m2 w1 w2 d1 d2
set_option maxHeartbeats 1000000 in
theorem rDay_not (r : Ru) (y : Int) (w : World) (h : (yrB y && mayR r) = false) :
    Calls Tryz.prog 88 #[ruV r, .int .i64 y] w fun e w' => e = .returned (.tuple #[.int .i64 0, .int .i64 1]) ∧ Kept w w' := by
  have HH := Lib.hid h; clear h
  have B0 := Lib.hid (br_new w r)
  have K0 := Lib.hid ((Kept.refl w).alloc (.cells #[.int .i64 r.k, .int .i64 r.m, .int .i64 r.w, .int .i64 r.d, .int .i64 r.a] 23))
  go_enter Tryz.func88, Tryz.ntmps88
  go_upto_region 1 with (fail)
  generalize w.alloc (.cells #[.int .i64 r.k, .int .i64 r.m, .int .i64 r.w, .int .i64 r.d, .int .i64 r.a] 23) = x at *
  have c0 := B0.out.c0
  have c1 := B0.out.c1
  have c2 := B0.out.c2
  have c3 := B0.out.c3
  have c4 := B0.out.c4
  go_wp2_with fail
  refine (rRule_any r _).mono ?_
  rintro e x1 ⟨rfl, k1⟩
  cases hr : mayR r with
  | false =>
    clear hr
    go_wp2
    go_ret2
    exact ⟨rfl, K0.out.trans k1⟩
  | true =>
    have hy : yrB y = false := by have := HH.out; rw [hr] at this; simpa using this
    have hn : ¬ (1960 ≤ y ∧ y ≤ 10010) := by simpa [yrB] using hy
    clear hr hy
    by_cases h1 : y < 1960
    · clear hn
      go_wp2
      go_ret2
      exact ⟨rfl, K0.out.trans k1⟩
    · have h2 : 10010 < y := by omega
      clear hn
      go_wp2
      go_ret2
      exact ⟨rfl, K0.out.trans k1⟩
set_option maxRecDepth 100000 in
set_option maxHeartbeats 2000000 in
theorem rTurns_yes (z : Zo) (y : Int) (w : World) (l1 : z.std.length ≤ 1000) (l2 : z.dst.length ≤ 1000) (hy : yrB y = true) (hz : mayZ z = true) (hh : z.has = true) :
    Calls Tryz.prog 61 #[zoV z, .int .i64 y] w fun e w' => e = .returned (.tuple #[.int .i64 (fromT z y), .int .i64 (uptoT z y), .int .i64 0]) ∧ Kept w w' := by
  have hb : 1960 ≤ y ∧ y ≤ 10010 := by simpa [yrB] using hy
  obtain ⟨r1, r2, o1, o2, a1, a2⟩ := may_T hz hh
  have q1 := may_day r1; have q2 := may_day r2
  have p1 := day_bd r1 hb.1 hb.2; have p2 := day_bd r2 hb.1 hb.2
  replace q1 : -604799 ≤ z.fr.a ∧ z.fr.a ≤ 604799 := ⟨q1.1, q1.2.1⟩
  replace q2 : -604799 ≤ z.to.a ∧ z.to.a ≤ 604799 := ⟨q2.1, q2.2.1⟩
  have HF := Lib.hid (show fromT z y = 86400 * dayN z.fr y + z.fr.a - z.off by unfold fromT; omega)
  have HU := Lib.hid (show uptoT z y = 86400 * dayN z.to y + z.to.a - z.ahead by unfold uptoT; omega)
  have R1 := Lib.hid r1; have R2 := Lib.hid r2
  have HY := Lib.hid hy; clear hy r1 r2
  have HZ := Lib.hid hz; clear hz
  have HH := Lib.hid hh; clear hh
  have B0 := Lib.hid (bz_new w z)
  have K0 := Lib.hid ((Kept.refl w).alloc (.cells (zo15 z.std z.off z.has z.dst z.ahead z.fr.k z.fr.m z.fr.w z.fr.d z.fr.a z.to.k z.to.m z.to.w z.to.d z.to.a) 25))
  go_enter Tryz.func61, Tryz.ntmps61
  go_upto_region 1 with (fail)
  generalize w.alloc (.cells (zo15 z.std z.off z.has z.dst z.ahead z.fr.k z.fr.m z.fr.w z.fr.d z.fr.a z.to.k z.to.m z.to.w z.to.d z.to.a) 25) = x at *
  go_wp2_with (refine wpList_load_row rfl 25 _ rfl w.heap.size rfl 25 _ (0, 0) _ B0.out Tryz.underlying25 rfl (by kernel_rfl) ?_)
  refine (rMay_any z _ (by omega) (by omega)).mono ?_
  rintro e w1 ⟨rfl, k1⟩
  have B1 := Lib.hid (B0.out.kept k1)
  have K1 := Lib.hid (K0.out.trans k1)
  clear B0 K0 k1
  rw [HZ.out]
  have c2 := B1.out.cs.c2
  rw [HH.out] at c2
  have c5 := B1.out.cs.c5
  have c6 := B1.out.cs.c6
  have c7 := B1.out.cs.c7
  have c8 := B1.out.cs.c8
  have c9 := B1.out.cs.c9
  go_wp2_with fail
  refine (rDay_yes z.fr y _ HY.out R1.out).mono ?_
  rintro e w2 ⟨rfl, k2⟩
  have B2 := Lib.hid (B1.out.kept k2)
  have K2 := Lib.hid (K1.out.trans k2)
  clear B1 K1 k2 c2 c5 c6 c7 c8 c9
  have c10 := B2.out.cs.c10
  have c11 := B2.out.cs.c11
  have c12 := B2.out.cs.c12
  have c13 := B2.out.cs.c13
  have c14 := B2.out.cs.c14
  go_wp2_with fail
  refine (rDay_yes z.to y _ HY.out R2.out).mono ?_
  rintro e w3 ⟨rfl, k3⟩
  have B3 := Lib.hid (B2.out.kept k3)
  have K3 := Lib.hid (K2.out.trans k3)
  clear B2 K2 k3 c10 c11 c12 c13 c14
  have c1 := B3.out.cs.c1
  have c4 := B3.out.cs.c4
  have c9 := B3.out.cs.c9
  have c14 := B3.out.cs.c14
  generalize dayN z.fr y = a at *
  generalize dayN z.to y = b at *
  go_wp2_with fail
  go_region_held3 (fun y => Kept w y ∧ y.cell? ⟨w.heap.size, 1, none⟩ = some (.int .i64 z.off) ∧ y.cell? ⟨w.heap.size, 4, none⟩ = some (.int .i64 z.ahead) ∧ y.cell? ⟨w.heap.size, 9, none⟩ = some (.int .i64 z.fr.a) ∧ y.cell? ⟨w.heap.size, 14, none⟩ = some (.int .i64 z.to.a)) (first | exact ⟨K3.out.drew, c1, c4, c9, c14⟩ | assumption) (fail)
  rw [show IntKind.i64.wrap (IntKind.i64.wrap (IntKind.i64.wrap (86400 * a) + z.fr.a) - z.off) = fromT z y by rw [HF.out]; simp only [IntKind.wrap_i64]; omega, show IntKind.i64.wrap (IntKind.i64.wrap (IntKind.i64.wrap (86400 * b) + z.to.a) - z.ahead) = uptoT z y by rw [HU.out]; simp only [IntKind.wrap_i64]; omega]
  have KK := (by assumption : Kept w _ ∧ _).1
  go_wp2
  exact bodyPost_ret (v := .tuple #[.int .i64 (fromT z y), .int .i64 (uptoT z y), .int .i64 0]) (by simp [results, Tryz.results61, go_sem, *]) rfl ⟨rfl, KK⟩
set_option maxRecDepth 100000 in
set_option maxHeartbeats 2000000 in
theorem rTurns_not (z : Zo) (y : Int) (w : World) (l1 : z.std.length ≤ 1000) (l2 : z.dst.length ≤ 1000) (h : (mayZ z && z.has && yrB y) = false) :
    Calls Tryz.prog 61 #[zoV z, .int .i64 y] w fun e w' => e = .returned (.tuple #[.int .i64 0, .int .i64 0, .int .i64 1]) ∧ Kept w w' := by
  have HN := Lib.hid h; clear h
  have B0 := Lib.hid (bz_new w z)
  have K0 := Lib.hid ((Kept.refl w).alloc (.cells (zo15 z.std z.off z.has z.dst z.ahead z.fr.k z.fr.m z.fr.w z.fr.d z.fr.a z.to.k z.to.m z.to.w z.to.d z.to.a) 25))
  go_enter Tryz.func61, Tryz.ntmps61
  go_upto_region 1 with (fail)
  generalize w.alloc (.cells (zo15 z.std z.off z.has z.dst z.ahead z.fr.k z.fr.m z.fr.w z.fr.d z.fr.a z.to.k z.to.m z.to.w z.to.d z.to.a) 25) = x at *
  go_wp2_with (refine wpList_load_row rfl 25 _ rfl w.heap.size rfl 25 _ (0, 0) _ B0.out Tryz.underlying25 rfl (by kernel_rfl) ?_)
  refine (rMay_any z _ (by omega) (by omega)).mono ?_
  rintro e w1 ⟨rfl, k1⟩
  have B1 := Lib.hid (B0.out.kept k1)
  have K1 := Lib.hid (K0.out.trans k1)
  clear B0 K0 k1
  cases hz : mayZ z with
  | false =>
    clear hz
    go_wp2
    exact bodyPost_ret (v := .tuple #[.int .i64 0, .int .i64 0, .int .i64 1]) (by simp [results, Tryz.results61, go_sem, *]) rfl ⟨rfl, K1.out⟩
  | true =>
    have c2 := B1.out.cs.c2
    cases hh : z.has with
    | false =>
      rw [hh] at c2
      clear hz hh
      go_wp2
      exact bodyPost_ret (v := .tuple #[.int .i64 0, .int .i64 0, .int .i64 1]) (by simp [results, Tryz.results61, go_sem, *]) rfl ⟨rfl, K1.out⟩
    | true =>
      rw [hh] at c2
      have hy : yrB y = false := by have := HN.out; rw [hz, hh] at this; simpa using this
      have hn : ¬ (1960 ≤ y ∧ y ≤ 10010) := by simpa [yrB] using hy
      clear hz hh hy
      by_cases h1 : y < 1960
      · clear hn
        go_wp2
        exact bodyPost_ret (v := .tuple #[.int .i64 0, .int .i64 0, .int .i64 1]) (by simp [results, Tryz.results61, go_sem, *]) rfl ⟨rfl, K1.out⟩
      · have h2 : 10010 < y := by omega
        clear hn
        go_wp2
        exact bodyPost_ret (v := .tuple #[.int .i64 0, .int .i64 0, .int .i64 1]) (by simp [results, Tryz.results61, go_sem, *]) rfl ⟨rfl, K1.out⟩
end Go.Proofs.YtilgamjahediiaaGreatDoor
/- Contracts of the document's answer for layer 4: how far a zone's time is ahead. -/
namespace Go.Proofs.YtilgamjahediiaaGreatDoor
open Go.ChangeShapes Go.WideShapes Go.ChangeAt Go.RowKit
open Civ Zn Lc
/-- the greatest turn of those that have come, not above the second -/
def rbF (f : Int → Int) (t : Int) (l : List Int) : Int := l.foldl (fun acc y => if f y ≤ t ∧ acc < f y then f y else acc) (-1152921504606846976)
theorem rbF_snoc (f : Int → Int) (t : Int) (l : List Int) (y : Int) : rbF f t (l ++ [y]) = if f y ≤ t ∧ rbF f t l < f y then f y else rbF f t l := by
  unfold rbF
  rw [List.foldl_append]
  rfl
theorem rbF_lst {f : Int → Int} (T : Turn f) {t y : Int} (h : Lc.Of t y) (h3 : 3 ≤ y) : rbF f t (yrs (y - 2) 5) = lst f t y := by
  have a0 := T.behind h h3; have a4 := T.ahead h
  have s0 := (T.step (y - 2) (by omega)).1
  have s1 := (T.step (y - 1) (by omega)).1
  have s2 := (T.step y (by omega)).1
  have s3 := (T.step (y + 1) (by omega)).1
  have b := T.lo (y - 2) (by omega)
  have c := dby_mono 1 (y - 2) (by omega) (by omega)
  have d : dby 1 = 0 := dby_1
  have e : first (y - 2) 1 = dby (y - 2) - 719162 := by unfold first; rw [cum_1]; omega
  rw [show y - 2 + 1 = y - 1 by omega] at s0
  rw [show y - 1 + 1 = y by omega] at s1
  rw [show y + 1 + 1 = y + 2 by omega] at s3
  simp only [yrs, List.nil_append, rbF_snoc]
  rw [show y - 2 + ((4 : Nat) : Int) = y + 2 by omega, show y - 2 + ((3 : Nat) : Int) = y + 1 by omega, show y - 2 + ((2 : Nat) : Int) = y by omega, show y - 2 + ((1 : Nat) : Int) = y - 1 by omega, show y - 2 + ((0 : Nat) : Int) = y - 2 by omega]
  have e0 : rbF f t [y - 2] = f (y - 2) := by
    simp only [rbF, List.foldl]
    rw [if_pos ⟨a0, by omega⟩]
  rw [e0]
  clear e0
  unfold lst
  generalize f (y - 2) = v0 at *
  generalize f (y - 1) = v1 at *
  generalize f y = v2 at *
  generalize f (y + 1) = v3 at *
  generalize f (y + 2) = v4 at *
  clear T
  by_cases q3 : v3 ≤ t
  · rw [if_neg (by omega)]
    have hx : (if v2 ≤ t ∧ (if v1 ≤ t ∧ v0 < v1 then v1 else v0) < v2 then v2 else if v1 ≤ t ∧ v0 < v1 then v1 else v0) < v3 := by split <;> split <;> omega
    rw [if_pos ⟨q3, hx⟩, if_pos q3]
  · rw [if_neg (by omega), if_neg (by omega), if_neg q3]
    by_cases q2 : v2 ≤ t
    · rw [if_pos q2, if_pos ⟨q2, by split <;> omega⟩]
    · rw [if_neg (by omega), if_neg q2]
      by_cases q1 : v1 ≤ t
      · rw [if_pos q1, if_pos ⟨q1, by omega⟩]
      · rw [if_neg q1, if_neg (by omega)]
set_option maxRecDepth 100000 in
set_option maxHeartbeats 2000000 in
theorem rOff_not (z : Zo) (t : Int) (w : World) (l1 : z.std.length ≤ 1000) (l2 : z.dst.length ≤ 1000) (h : (mayZ z && scB t) = false) :
    Calls Tryz.prog 30 #[zoV z, .int .i64 t] w fun e w' => e = .returned (.tuple #[.int .i64 0, .int .i64 1]) ∧ Kept w w' := by
  have HN := Lib.hid h; clear h
  have B0 := Lib.hid (bz_new w z)
  have K0 := Lib.hid ((Kept.refl w).alloc (.cells (zo15 z.std z.off z.has z.dst z.ahead z.fr.k z.fr.m z.fr.w z.fr.d z.fr.a z.to.k z.to.m z.to.w z.to.d z.to.a) 25))
  go_enter Tryz.func30, Tryz.ntmps30
  go_upto_region 1 with (fail)
  generalize w.alloc (.cells (zo15 z.std z.off z.has z.dst z.ahead z.fr.k z.fr.m z.fr.w z.fr.d z.fr.a z.to.k z.to.m z.to.w z.to.d z.to.a) 25) = x at *
  go_wp2_with (refine wpList_load_row rfl 25 _ rfl w.heap.size rfl 25 _ (0, 0) _ B0.out Tryz.underlying25 rfl (by kernel_rfl) ?_)
  refine (rMay_any z _ (by omega) (by omega)).mono ?_
  rintro e w1 ⟨rfl, k1⟩
  have B1 := Lib.hid (B0.out.kept k1)
  have K1 := Lib.hid (K0.out.trans k1)
  clear B0 K0 k1
  cases hz : mayZ z with
  | false =>
    clear hz
    go_wp2
    go_ret2
    exact ⟨rfl, K1.out⟩
  | true =>
    have ht : scB t = false := by have := HN.out; rw [hz] at this; simpa using this
    have hn : ¬ (0 ≤ t ∧ t ≤ 253402300799) := by simpa [scB] using ht
    clear hz ht
    by_cases h1 : t < 0
    · clear hn
      go_wp2
      go_ret2
      exact ⟨rfl, K1.out⟩
    · have h2 : 253402300799 < t := by omega
      clear hn
      go_wp2
      go_ret2
      exact ⟨rfl, K1.out⟩
set_option maxRecDepth 100000 in
set_option maxHeartbeats 4000000 in
theorem rOff_yes (z : Zo) (t : Int) (w : World) (l1 : z.std.length ≤ 1000) (l2 : z.dst.length ≤ 1000) (hz : mayZ z = true) (ht : scB t = true) :
    Calls Tryz.prog 30 #[zoV z, .int .i64 t] w fun e w' => e = .returned (.tuple #[.int .i64 (offP z t), .int .i64 0]) ∧ Kept w w' := by
  have HZ := Lib.hid hz
  have hb : 0 ≤ t ∧ t ≤ 253402300799 := by simpa [scB] using ht
  cases hh : z.has with
  | false =>
    have HO := Lib.hid (show offP z t = z.off by unfold offP offY; rw [if_neg (by simp [hh])])
    have HH := Lib.hid hh; clear hh hz ht
    have B0 := Lib.hid (bz_new w z)
    have K0 := Lib.hid ((Kept.refl w).alloc (.cells (zo15 z.std z.off z.has z.dst z.ahead z.fr.k z.fr.m z.fr.w z.fr.d z.fr.a z.to.k z.to.m z.to.w z.to.d z.to.a) 25))
    go_enter Tryz.func30, Tryz.ntmps30
    go_upto_region 1 with (fail)
    generalize w.alloc (.cells (zo15 z.std z.off z.has z.dst z.ahead z.fr.k z.fr.m z.fr.w z.fr.d z.fr.a z.to.k z.to.m z.to.w z.to.d z.to.a) 25) = x at *
    go_wp2_with (refine wpList_load_row rfl 25 _ rfl w.heap.size rfl 25 _ (0, 0) _ B0.out Tryz.underlying25 rfl (by kernel_rfl) ?_)
    refine (rMay_any z _ (by omega) (by omega)).mono ?_
    rintro e w1 ⟨rfl, k1⟩
    have B1 := Lib.hid (B0.out.kept k1)
    have K1 := Lib.hid (K0.out.trans k1)
    clear B0 K0 k1
    rw [HZ.out]
    have c1 := B1.out.cs.c1
    have c2 := B1.out.cs.c2
    rw [HH.out] at c2
    go_wp2
    go_ret2
    exact ⟨by rw [HO.out]; rfl, K1.out⟩
  | true =>
    obtain ⟨hY, y1, y2⟩ := of_year t w ht
    have HF := Lib.hid (rbF_lst (turn_from hz hh) hY (by omega))
    have HU := Lib.hid (rbF_lst (turn_upto hz hh) hY (by omega))
    have HO := Lib.hid (show offP z t = if lst (uptoT z) t (yr (t / 86400)) < lst (fromT z) t (yr (t / 86400)) then z.ahead else z.off by unfold offP offY; rw [if_pos hh])
    have hc : inCal t := by unfold inCal; omega
    have HC := Lib.hid hc
    have HH := Lib.hid hh; clear hh hz ht hY hc
    have B0 := Lib.hid (bz_new w z)
    have K0 := Lib.hid ((Kept.refl w).alloc (.cells (zo15 z.std z.off z.has z.dst z.ahead z.fr.k z.fr.m z.fr.w z.fr.d z.fr.a z.to.k z.to.m z.to.w z.to.d z.to.a) 25))
    go_enter Tryz.func30, Tryz.ntmps30
    go_upto_region 1 with (fail)
    generalize w.alloc (.cells (zo15 z.std z.off z.has z.dst z.ahead z.fr.k z.fr.m z.fr.w z.fr.d z.fr.a z.to.k z.to.m z.to.w z.to.d z.to.a) 25) = x at *
    go_wp2_with (refine wpList_load_row rfl 25 _ rfl w.heap.size rfl 25 _ (0, 0) _ B0.out Tryz.underlying25 rfl (by kernel_rfl) ?_)
    refine (rMay_any z _ (by omega) (by omega)).mono ?_
    rintro e w1 ⟨rfl, k1⟩
    have B1 := Lib.hid (B0.out.kept k1)
    have K1 := Lib.hid (K0.out.trans k1)
    clear B0 K0 k1
    rw [HZ.out]
    have c2 := B1.out.cs.c2
    rw [HH.out] at c2
    go_wp2_with fail
    refine (rat_yes t _ HC.out).mono ?_
    rintro e w2 ⟨hD, rfl, k2⟩
    clear c2 hD
    have B2 := Lib.hid (B1.out.kept k2)
    have K2 := Lib.hid (K1.out.trans k2)
    clear B1 K1 k2
    go_upto_region 7 with (fail)
    have kc := (Kept.refl w2).alloc (.cells #[.int .i64 (yr (t / 86400)), .int .i64 (mo (t / 86400)), .int .i64 (dy (t / 86400)), .int .i64 (t % 86400 / 3600), .int .i64 (t % 3600 / 60), .int .i64 (t % 60)] 34)
    have nc := new_block w2 (.cells #[.int .i64 (yr (t / 86400)), .int .i64 (mo (t / 86400)), .int .i64 (dy (t / 86400)), .int .i64 (t % 86400 / 3600), .int .i64 (t % 3600 / 60), .int .i64 (t % 60)] 34)
    generalize hq : w2.heap.size = q at *
    generalize w2.alloc (.cells #[.int .i64 (yr (t / 86400)), .int .i64 (mo (t / 86400)), .int .i64 (dy (t / 86400)), .int .i64 (t % 86400 / 3600), .int .i64 (t % 3600 / 60), .int .i64 (t % 60)] 34) = X at *
    have B3 := Lib.hid (B2.out.kept kc)
    have K3 := Lib.hid (K2.out.trans kc)
    clear B2 K2 kc
    have cy := cell_of nc (j := 0) rfl
    have NC := Lib.hid nc; clear nc
    generalize yr (t / 86400) = Y at *
    go_wp2_with fail
    go_loopw [9, 10, 11] (fun a b c y => ∃ k : Nat, k ≤ 5 ∧ a = .int .i64 (rbF (fromT z) t (yrs (Y - 2) k)) ∧ b = .int .i64 (rbF (uptoT z) t (yrs (Y - 2) k)) ∧ c = .int .i64 (Y - 2 + k) ∧ Kept X y) (fun _ _ c _ => (Y + 3 - intOf c).toNat)
    case atStart => exact ⟨0, by omega, rfl, rfl, by simp, Kept.refl _⟩
    case round =>
      obtain ⟨k, hk, rfl, rfl, rfl, hkp⟩ := hrel
      have cy := (hkp.cell (a := ⟨q, 0, none⟩) (Array.getElem?_eq_some_iff.1 NC.out).1).trans (cell_of NC.out (j := 0) rfl)
      by_cases hlt : k < 5
      · have Br := Lib.hid (B3.out.kept hkp)
        have SF := Lib.hid (rbF_snoc (fromT z) t (yrs (Y - 2) k) (Y - 2 + k))
        have SU := Lib.hid (rbF_snoc (uptoT z) t (yrs (Y - 2) k) (Y - 2 + k))
        have HP := Lib.hid hkp
        have hyb : yrB (Y - 2 + k) = true := by simp [yrB]; omega
        have HYB := Lib.hid hyb; clear hyb hkp
        have c0 := Br.out.cs.c0
        have c1 := Br.out.cs.c1
        have c2 := Br.out.cs.c2
        have c3 := Br.out.cs.c3
        have c4 := Br.out.cs.c4
        have c5 := Br.out.cs.c5
        have c6 := Br.out.cs.c6
        have c7 := Br.out.cs.c7
        have c8 := Br.out.cs.c8
        have c9 := Br.out.cs.c9
        have c10 := Br.out.cs.c10
        have c11 := Br.out.cs.c11
        have c12 := Br.out.cs.c12
        have c13 := Br.out.cs.c13
        have c14 := Br.out.cs.c14
        go_wp2_with fail
        clear c0 c1 c2 c3 c4 c5 c6 c7 c8 c9 c10 c11 c12 c13 c14
        refine (rTurns_yes z (Y - 2 + k) _ l1 l2 HYB.out HZ.out HH.out).mono ?_
        rintro e w5 ⟨rfl, k5⟩
        generalize hF : fromT z (Y - 2 + k) = F at *
        generalize hU : uptoT z (Y - 2 + k) = U at *
        generalize rbF (fromT z) t (yrs (Y - 2) k) = A at *
        generalize rbF (uptoT z) t (yrs (Y - 2) k) = B at *
        go_wp2
        all_goals
          go_roundw
          case rel => exact ⟨k + 1, by omega, by rw [show yrs (Y - 2) (k + 1) = yrs (Y - 2) k ++ [Y - 2 + (k : Int)] from rfl, SF.out]; congr 1; split <;> omega, by rw [show yrs (Y - 2) (k + 1) = yrs (Y - 2) k ++ [Y - 2 + (k : Int)] from rfl, SU.out]; congr 1; split <;> omega, by go_num, HP.out.trans k5⟩
          case measure => simp [intOf]; omega
      · obtain rfl : k = 5 := by omega
        rw [HF.out, HU.out]
        have Br := B3.out.kept hkp
        have c1 := Br.cs.c1
        have c4 := Br.cs.c4
        by_cases hlu : lst (uptoT z) t Y < lst (fromT z) t Y
        · have HR := Lib.hid (show offP z t = z.ahead by rw [HO.out, if_pos hlu])
          go_wp2
          go_ret2
          exact ⟨by rw [HR.out]; rfl, K3.out.trans hkp⟩
        · have HR := Lib.hid (show offP z t = z.off by rw [HO.out, if_neg hlu])
          go_wp2
          go_ret2
          exact ⟨by rw [HR.out]; rfl, K3.out.trans hkp⟩
end Go.Proofs.YtilgamjahediiaaGreatDoor
/- Contracts of the document's answer for layer 4: the day and time there. -/
namespace Go.Proofs.YtilgamjahediiaaGreatDoor
open Go.ChangeShapes Go.WideShapes Go.ChangeAt Go.RowKit
open Civ Zn Lc
set_option maxRecDepth 100000 in
set_option maxHeartbeats 2000000 in
theorem rAt_yes (z : Zo) (t : Int) (w : World) (l1 : z.std.length ≤ 1000) (l2 : z.dst.length ≤ 1000) (hz : mayZ z = true) (ht : scB t = true) (hc : inCal (t + offP z t)) :
    Calls Tryz.prog 33 #[zoV z, .int .i64 t] w (AtPost (t + offP z t) w) := by
  have HZ := Lib.hid hz; have HT := Lib.hid ht; have HC := Lib.hid hc
  have ob := offP_bd hz t
  have tb : 0 ≤ t ∧ t ≤ 253402300799 := by simpa [scB] using ht
  clear hz ht hc
  have B0 := Lib.hid (bz_new w z)
  have K0 := Lib.hid ((Kept.refl w).alloc (.cells (zo15 z.std z.off z.has z.dst z.ahead z.fr.k z.fr.m z.fr.w z.fr.d z.fr.a z.to.k z.to.m z.to.w z.to.d z.to.a) 25))
  go_enter Tryz.func33, Tryz.ntmps33
  go_upto_region 1 with (fail)
  generalize hx : w.alloc (.cells (zo15 z.std z.off z.has z.dst z.ahead z.fr.k z.fr.m z.fr.w z.fr.d z.fr.a z.to.k z.to.m z.to.w z.to.d z.to.a) 25) = x at *
  have s1 : x.heap.size = w.heap.size + 1 := by rw [← hx]; simp
  clear hx
  have b1 := new_block x (.cells #[.int .i64 0, .int .i64 0, .int .i64 0, .int .i64 0, .int .i64 0, .int .i64 0] 34)
  have k1 := (Kept.refl x).alloc (.cells #[.int .i64 0, .int .i64 0, .int .i64 0, .int .i64 0, .int .i64 0, .int .i64 0] 34)
  rw [s1] at b1
  generalize x.alloc (.cells #[.int .i64 0, .int .i64 0, .int .i64 0, .int .i64 0, .int .i64 0, .int .i64 0] 34) = y at *
  have B1 := Lib.hid (B0.out.kept k1)
  have R1 := Lib.hid b1
  have K1 := Lib.hid (K0.out.trans k1)
  clear B0 K0 k1 b1 s1
  go_wp2_with (refine wpList_load_row rfl 25 _ rfl w.heap.size rfl 25 _ (0, 0) _ B1.out Tryz.underlying25 rfl (by kernel_rfl) ?_)
  refine (rOff_yes z t _ l1 l2 HZ.out HT.out).mono ?_
  rintro e w1 ⟨rfl, k2⟩
  generalize offP z t = o at *
  have R2 := Lib.hid ((k2.block _ (Array.getElem?_eq_some_iff.1 R1.out).1).trans R1.out)
  have K2 := Lib.hid (K1.out.trans k2)
  clear B1 R1 K1 k2
  go_wp2_with fail
  refine (rat_yes _ _ HC.out).mono ?_
  rintro e w2 ⟨hD, rfl, k3⟩
  have R3 := Lib.hid ((k3.block _ (Array.getElem?_eq_some_iff.1 R2.out).1).trans R2.out)
  have K3 := Lib.hid (K2.out.trans k3)
  clear R2 K2 k3
  go_upto_region 5 with (fail)
  have kc := (Kept.refl w2).alloc (.cells #[.int .i64 (yr ((t + o) / 86400)), .int .i64 (mo ((t + o) / 86400)), .int .i64 (dy ((t + o) / 86400)), .int .i64 ((t + o) % 86400 / 3600), .int .i64 ((t + o) % 3600 / 60), .int .i64 ((t + o) % 60)] 34)
  have nc := new_block w2 (.cells #[.int .i64 (yr ((t + o) / 86400)), .int .i64 (mo ((t + o) / 86400)), .int .i64 (dy ((t + o) / 86400)), .int .i64 ((t + o) % 86400 / 3600), .int .i64 ((t + o) % 3600 / 60), .int .i64 ((t + o) % 60)] 34)
  generalize w2.heap.size = q at *
  generalize w2.alloc (.cells #[.int .i64 (yr ((t + o) / 86400)), .int .i64 (mo ((t + o) / 86400)), .int .i64 (dy ((t + o) / 86400)), .int .i64 ((t + o) % 86400 / 3600), .int .i64 ((t + o) % 3600 / 60), .int .i64 ((t + o) % 60)] 34) = X at *
  have R4 := Lib.hid ((kc.block _ (Array.getElem?_eq_some_iff.1 R3.out).1).trans R3.out)
  have kb : Kept w X := K3.out.trans kc
  clear K3 R3
  have d0 := cell_of nc (j := 0) rfl
  have d1 := cell_of nc (j := 1) rfl
  have d2 := cell_of nc (j := 2) rfl
  have d3 := cell_of nc (j := 3) rfl
  have d4 := cell_of nc (j := 4) rfl
  have d5 := cell_of nc (j := 5) rfl
  clear nc kc
  have e0 := cell_of R4.out (j := 0) rfl
  have e1 := cell_of R4.out (j := 1) rfl
  have e2 := cell_of R4.out (j := 2) rfl
  have e3 := cell_of R4.out (j := 3) rfl
  have e4 := cell_of R4.out (j := 4) rfl
  have e5 := cell_of R4.out (j := 5) rfl
  have f0 : ∀ j, X.frozen? ⟨w.heap.size + 1, j, none⟩ = false := fun j => by have := R4.out; simp [World.frozen?, this]
  have HD := Lib.hid hD; clear hD
  go_wp2
  exact bodyPost_ret (v := .tuple #[cv (t + o), .int .i64 0]) (by simp [results, Tryz.results33, go_sem, *]) rfl ⟨HD.out, rfl, (((((kb.setCell (Nat.le_succ _) _).setCell (Nat.le_succ _) _).setCell (Nat.le_succ _) _).setCell (Nat.le_succ _) _).setCell (Nat.le_succ _) _).setCell (Nat.le_succ _) _⟩
set_option maxRecDepth 100000 in
set_option maxHeartbeats 2000000 in
theorem rAt_out (z : Zo) (t : Int) (w : World) (l1 : z.std.length ≤ 1000) (l2 : z.dst.length ≤ 1000) (hz : mayZ z = true) (ht : scB t = true) (hc : ¬ inCal (t + offP z t)) :
    Calls Tryz.prog 33 #[zoV z, .int .i64 t] w fun e w' => e = .returned (.tuple #[civ 0 0 0 0 0 0, .int .i64 1]) ∧ Kept w w' := by
  have HZ := Lib.hid hz; have HT := Lib.hid ht; have HC := Lib.hid hc
  have ob := offP_bd hz t
  have tb : 0 ≤ t ∧ t ≤ 253402300799 := by simpa [scB] using ht
  clear hz ht hc
  have B0 := Lib.hid (bz_new w z)
  have K0 := Lib.hid ((Kept.refl w).alloc (.cells (zo15 z.std z.off z.has z.dst z.ahead z.fr.k z.fr.m z.fr.w z.fr.d z.fr.a z.to.k z.to.m z.to.w z.to.d z.to.a) 25))
  go_enter Tryz.func33, Tryz.ntmps33
  go_upto_region 1 with (fail)
  generalize hx : w.alloc (.cells (zo15 z.std z.off z.has z.dst z.ahead z.fr.k z.fr.m z.fr.w z.fr.d z.fr.a z.to.k z.to.m z.to.w z.to.d z.to.a) 25) = x at *
  have s1 : x.heap.size = w.heap.size + 1 := by rw [← hx]; simp
  clear hx
  have b1 := new_block x (.cells #[.int .i64 0, .int .i64 0, .int .i64 0, .int .i64 0, .int .i64 0, .int .i64 0] 34)
  have k1 := (Kept.refl x).alloc (.cells #[.int .i64 0, .int .i64 0, .int .i64 0, .int .i64 0, .int .i64 0, .int .i64 0] 34)
  rw [s1] at b1
  generalize x.alloc (.cells #[.int .i64 0, .int .i64 0, .int .i64 0, .int .i64 0, .int .i64 0, .int .i64 0] 34) = y at *
  have B1 := Lib.hid (B0.out.kept k1)
  have R1 := Lib.hid b1
  have K1 := Lib.hid (K0.out.trans k1)
  clear B0 K0 k1 b1 s1
  go_wp2_with (refine wpList_load_row rfl 25 _ rfl w.heap.size rfl 25 _ (0, 0) _ B1.out Tryz.underlying25 rfl (by kernel_rfl) ?_)
  refine (rOff_yes z t _ l1 l2 HZ.out HT.out).mono ?_
  rintro e w1 ⟨rfl, k2⟩
  generalize offP z t = o at *
  have R2 := Lib.hid ((k2.block _ (Array.getElem?_eq_some_iff.1 R1.out).1).trans R1.out)
  have K2 := Lib.hid (K1.out.trans k2)
  clear B1 R1 K1 k2
  go_wp2_with fail
  refine (rat_not _ _ (by omega) (by omega) HC.out).mono ?_
  rintro e w2 ⟨rfl, k3⟩
  have R3 := Lib.hid ((k3.block _ (Array.getElem?_eq_some_iff.1 R2.out).1).trans R2.out)
  have K3 := Lib.hid (K2.out.trans k3)
  clear R2 K2 k3
  go_upto_region 5 with (fail)
  have kc := (Kept.refl w2).alloc (.cells #[.int .i64 0, .int .i64 0, .int .i64 0, .int .i64 0, .int .i64 0, .int .i64 0] 34)
  have nc := new_block w2 (.cells #[.int .i64 0, .int .i64 0, .int .i64 0, .int .i64 0, .int .i64 0, .int .i64 0] 34)
  generalize w2.heap.size = q at *
  generalize w2.alloc (.cells #[.int .i64 0, .int .i64 0, .int .i64 0, .int .i64 0, .int .i64 0, .int .i64 0] 34) = X at *
  have R4 := Lib.hid ((kc.block _ (Array.getElem?_eq_some_iff.1 R3.out).1).trans R3.out)
  have kb : Kept w X := K3.out.trans kc
  clear K3 R3
  have d0 := cell_of nc (j := 0) rfl
  have d1 := cell_of nc (j := 1) rfl
  have d2 := cell_of nc (j := 2) rfl
  have d3 := cell_of nc (j := 3) rfl
  have d4 := cell_of nc (j := 4) rfl
  have d5 := cell_of nc (j := 5) rfl
  clear nc kc
  have e0 := cell_of R4.out (j := 0) rfl
  have e1 := cell_of R4.out (j := 1) rfl
  have e2 := cell_of R4.out (j := 2) rfl
  have e3 := cell_of R4.out (j := 3) rfl
  have e4 := cell_of R4.out (j := 4) rfl
  have e5 := cell_of R4.out (j := 5) rfl
  have f0 : ∀ j, X.frozen? ⟨w.heap.size + 1, j, none⟩ = false := fun j => by have := R4.out; simp [World.frozen?, this]
  go_wp2
  exact bodyPost_ret (v := .tuple #[civ 0 0 0 0 0 0, .int .i64 1]) (by simp [results, Tryz.results33, go_sem, *]) rfl ⟨rfl, (((((kb.setCell (Nat.le_succ _) _).setCell (Nat.le_succ _) _).setCell (Nat.le_succ _) _).setCell (Nat.le_succ _) _).setCell (Nat.le_succ _) _).setCell (Nat.le_succ _) _⟩
set_option maxRecDepth 100000 in
set_option maxHeartbeats 2000000 in
theorem rAt_not (z : Zo) (t : Int) (w : World) (l1 : z.std.length ≤ 1000) (l2 : z.dst.length ≤ 1000) (h : (mayZ z && scB t) = false) :
    Calls Tryz.prog 33 #[zoV z, .int .i64 t] w fun e w' => e = .returned (.tuple #[civ 0 0 0 0 0 0, .int .i64 1]) ∧ Kept w w' := by
  have HN := Lib.hid h; clear h
  have B0 := Lib.hid (bz_new w z)
  have K0 := Lib.hid ((Kept.refl w).alloc (.cells (zo15 z.std z.off z.has z.dst z.ahead z.fr.k z.fr.m z.fr.w z.fr.d z.fr.a z.to.k z.to.m z.to.w z.to.d z.to.a) 25))
  go_enter Tryz.func33, Tryz.ntmps33
  go_upto_region 1 with (fail)
  generalize hx : w.alloc (.cells (zo15 z.std z.off z.has z.dst z.ahead z.fr.k z.fr.m z.fr.w z.fr.d z.fr.a z.to.k z.to.m z.to.w z.to.d z.to.a) 25) = x at *
  have s1 : x.heap.size = w.heap.size + 1 := by rw [← hx]; simp
  clear hx
  have b1 := new_block x (.cells #[.int .i64 0, .int .i64 0, .int .i64 0, .int .i64 0, .int .i64 0, .int .i64 0] 34)
  have k1 := (Kept.refl x).alloc (.cells #[.int .i64 0, .int .i64 0, .int .i64 0, .int .i64 0, .int .i64 0, .int .i64 0] 34)
  rw [s1] at b1
  generalize x.alloc (.cells #[.int .i64 0, .int .i64 0, .int .i64 0, .int .i64 0, .int .i64 0, .int .i64 0] 34) = y at *
  have B1 := Lib.hid (B0.out.kept k1)
  have R1 := Lib.hid b1
  have K1 := Lib.hid (K0.out.trans k1)
  clear B0 K0 k1 b1 s1
  go_wp2_with (refine wpList_load_row rfl 25 _ rfl w.heap.size rfl 25 _ (0, 0) _ B1.out Tryz.underlying25 rfl (by kernel_rfl) ?_)
  refine (rOff_not z t _ l1 l2 HN.out).mono ?_
  rintro e w2 ⟨rfl, k2⟩
  have R3 := Lib.hid ((k2.block _ (Array.getElem?_eq_some_iff.1 R1.out).1).trans R1.out)
  have K3 := Lib.hid (K1.out.trans k2)
  clear B1 R1 K1 k2
  have kb : Kept w w2 := K3.out
  have e0 := cell_of R3.out (j := 0) rfl
  have e1 := cell_of R3.out (j := 1) rfl
  have e2 := cell_of R3.out (j := 2) rfl
  have e3 := cell_of R3.out (j := 3) rfl
  have e4 := cell_of R3.out (j := 4) rfl
  have e5 := cell_of R3.out (j := 5) rfl
  have f0 : ∀ j, w2.frozen? ⟨w.heap.size + 1, j, none⟩ = false := fun j => by have := R3.out; simp [World.frozen?, this]
  clear K3
  go_wp2
  exact bodyPost_ret (v := .tuple #[civ 0 0 0 0 0 0, .int .i64 1]) (by simp [results, Tryz.results33, go_sem, *]) rfl ⟨rfl, (((((kb.setCell (Nat.le_succ _) _).setCell (Nat.le_succ _) _).setCell (Nat.le_succ _) _).setCell (Nat.le_succ _) _).setCell (Nat.le_succ _) _).setCell (Nat.le_succ _) _⟩
end Go.Proofs.YtilgamjahediiaaGreatDoor
/- Days and times: whether two are the same; a second's, and a day and time's second. -/
namespace Go.Proofs.YtilgamjahediiaaGreatDoor
open Go.ChangeShapes Go.WideShapes Go.ChangeAt Go.RowKit
open Civ Zn Lc
def cvE (y m d h i s y' m' d' h' i' s' : Int) : Bool := y == y' && (m == m' && (d == d' && (h == h' && (i == i' && s == s'))))
theorem cvE_iff {y m d h i s y' m' d' h' i' s' : Int} : cvE y m d h i s y' m' d' h' i' s' = true ↔ y = y' ∧ m = m' ∧ d = d' ∧ h = h' ∧ i = i' ∧ s = s' := by
  simp [cvE]
set_option maxRecDepth 100000 in
theorem eq_civ (y m d h i s y' m' d' h' i' s' : Int) (w : World) : (Op.equalIn 10000 34 (civ y m d h i s) (civ y' m' d' h' i' s')).run Tryz.prog w = .ok (cvE y m d h i s y' m' d' h' i' s') w := by
  have h1 : Tryz.prog.stoodInHeld 34 = false := by kernel_rfl
  rw [run_equalIn_struct w 9999 34 _ _ (by simp [go_sem]) h1]
  unfold cvE
  simp [go_sem]
  simp only [if_ok, if_bb, Bool.and_true]
  rfl
theorem eql_civ (y m d h i s y' m' d' h' i' s' : Int) (w : World) : (binOp .eql 34 (civ y m d h i s) (civ y' m' d' h' i' s')).run Tryz.prog w = .ok (.bool (cvE y m d h i s y' m' d' h' i' s')) w := by
  rw [run_eql_struct, eq_civ]; rfl
theorem sec_at (t : Int) (h : Day (t / 86400)) : sec (yr (t / 86400)) (mo (t / 86400)) (dy (t / 86400)) (t % 86400 / 3600) (t % 3600 / 60) (t % 60) = t := by
  unfold sec; rw [h.2]; omega
theorem cv_sec {y m d h i s : Int} (k : okP y m d) (kt : tmB h i s = true) : (yr (sec y m d h i s / 86400) = y ∧ mo (sec y m d h i s / 86400) = m ∧ dy (sec y m d h i s / 86400) = d ∧ sec y m d h i s % 86400 / 3600 = h ∧ sec y m d h i s % 3600 / 60 = i ∧ sec y m d h i s % 60 = s) ∧ inCal (sec y m d h i s) := by
  obtain ⟨a1, a2, a3, a4, a5, a6⟩ := tm_bd kt
  obtain ⟨o1, o2⟩ := ord_bd k
  have e1 : sec y m d h i s / 86400 = ord y m d := by unfold sec; omega
  obtain ⟨f1, f2, f3⟩ := ymd_of (n := sec y m d h i s / 86400) k e1.symm
  refine ⟨⟨f1, f2, f3, ?_, ?_, ?_⟩, ?_⟩
  · unfold sec; omega
  · unfold sec; omega
  · unfold sec; omega
  · unfold inCal sec; omega
/-- the day and time of v is the one asked for, just where v is its second -/
theorem cvE_at {y m d h i s v : Int} (k : okP y m d) (kt : tmB h i s = true) (hv : Day (v / 86400)) : cvE (yr (v / 86400)) (mo (v / 86400)) (dy (v / 86400)) (v % 86400 / 3600) (v % 3600 / 60) (v % 60) y m d h i s = decide (v = sec y m d h i s) := by
  rw [Bool.eq_iff_iff, cvE_iff, decide_eq_true_eq]
  constructor
  · rintro ⟨rfl, rfl, rfl, rfl, rfl, rfl⟩
    exact (sec_at v hv).symm
  · rintro rfl
    exact (cv_sec k kt).1
end Go.Proofs.YtilgamjahediiaaGreatDoor
