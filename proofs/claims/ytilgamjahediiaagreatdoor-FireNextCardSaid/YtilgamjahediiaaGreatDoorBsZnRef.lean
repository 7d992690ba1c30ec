/- Contracts of the document's answer for zones: whether one may be. -/
import Derived.Test.YtilgamjahediiaaGreatDoorBsZn
import Derived.RowKit
namespace Go.Proofs.YtilgamjahediiaaGreatDoor
open Go.ChangeShapes Go.WideShapes Go.ChangeAt Go.RowKit
open Zn
theorem rletter_any (c : UInt8) (w : World) :
    Calls Tryz.prog 114 #[.int .u8 c.toNat] w fun e w' => e = .returned (.bool (ltr c)) ∧ w = w' := by
  go_enter Tryz.func114, Tryz.ntmps114
  go_wp2
  all_goals (go_ret; refine ⟨ret_bool ?_, rfl⟩; simp only [ltr]; first | (simp [*]; done) | (simp; omega) | (rw [Bool.eq_iff_iff]; simp only [Bool.or_eq_true, decide_eq_true_eq]; omega))
theorem rsign_any (c : UInt8) (w : World) :
    Calls Tryz.prog 87 #[.int .u8 c.toNat] w fun e w' => e = .returned (.bool (nmb c)) ∧ w = w' := by
  have hn := Lib.hid (show nmb c = (ltr c || decide (48 ≤ c.toNat ∧ c.toNat ≤ 57 ∨ c.toNat = 43 ∨ c.toNat = 45)) by
    rw [Bool.eq_iff_iff]; simp only [nmb, ltr, Bool.or_eq_true, decide_eq_true_eq]; omega)
  go_enter Tryz.func87, Tryz.ntmps87
  go_wp2_with fail
  refine (rletter_any c _).mono ?_
  rintro e w1 ⟨rfl, rfl⟩
  cases hl : ltr c with
  | true =>
    go_wp2
    go_ret
    exact ⟨ret_bool (by rw [hn.out, hl]; rfl), rfl⟩
  | false =>
    have HL := Lib.hid hl; clear hl
    go_wp2
    all_goals
      go_ret
      refine ⟨ret_bool ?_, rfl⟩
      rw [hn.out, HL.out, Bool.false_or, Bool.eq_iff_iff]
      simp
      omega
def RnIn (p : UInt8 → Bool) (l : List UInt8) (i : Value) : Prop := ∃ k : Nat, k ≤ l.length ∧ i = .int .i64 k ∧ l.all p = (l.drop k).all p
theorem all_drop (p : UInt8 → Bool) (l : List UInt8) (k : Nat) (h : k < l.length) : (l.drop k).all p = (p l[k] && (l.drop (k + 1)).all p) := by
  rw [List.drop_eq_getElem_cons h, List.all_cons]
set_option maxHeartbeats 1000000 in
theorem rName_any (l : List UInt8) (w : World) (hl : l.length ≤ 1000000000) :
    Calls Tryz.prog 58 #[.string ⟨l.toArray⟩] w fun e w' => e = .returned (.bool (mayN l)) ∧ w = w' := by
  have hm := Lib.hid (show mayN l = (decide (3 ≤ l.length ∧ l.length ≤ 10) && l.all nmb) from rfl)
  go_enter Tryz.func58, Tryz.ntmps58
  go_wp2_with fail
  go_loop [3] (fun i => RnIn nmb l i) (fun i => l.length - (intOf i).toNat)
  case atStart => exact ⟨0, Nat.zero_le _, rfl, rfl⟩
  case round =>
    obtain ⟨k, hk, rfl, hr⟩ := hrel
    have HR := Lib.hid hr; clear hr
    by_cases hlt : k < l.length
    · have hs := Lib.hid (all_drop nmb l k hlt)
      go_wp2_with fail
      rw [at_list l k hlt]
      refine (rsign_any _ _).mono ?_
      rintro e w1 ⟨rfl, rfl⟩
      cases hp : nmb l[k] with
      | true =>
        have hq := Lib.hid (show l.all nmb = (l.drop (k + 1)).all nmb by rw [HR.out, hs.out, hp, Bool.true_and]); clear hp hs
        go_wp2
        go_round
        case rel => exact ⟨k + 1, by omega, by go_num, hq.out⟩
        case measure => simp [intOf]; omega
      | false =>
        have hq := Lib.hid (show l.all nmb = false by rw [HR.out, hs.out, hp, Bool.false_and]); clear hp hs
        go_wp2
        go_ret
        exact ⟨ret_bool (by rw [hm.out, hq.out, Bool.and_false]), rfl⟩
    · have hq := Lib.hid (show l.all nmb = true by rw [HR.out, List.drop_of_length_le (by omega)]; rfl)
      go_wp2
      all_goals
        go_ret
        refine ⟨ret_bool ?_, rfl⟩
        rw [hm.out, hq.out, Bool.and_true]
        first | (simp; omega) | (rw [Bool.eq_iff_iff]; simp; omega)
theorem off_any (n : Int) (w : World) :
    Calls Tryz.prog 59 #[.int .i64 n] w fun e w' => e = .returned (.bool (offB n)) ∧ w = w' := by
  go_enter Tryz.func59, Tryz.ntmps59
  go_wp2
  all_goals (go_ret; refine ⟨ret_bool ?_, rfl⟩; first | (simp [offB, *]; done) | (simp [offB, *]; intros; omega))
set_option maxHeartbeats 1000000 in
theorem rRule_any (r : Ru) (w : World) :
    Calls Tryz.prog 60 #[ruV r] w fun e w' => e = .returned (.bool (mayR r)) ∧ Kept w w' := by
  obtain ⟨k, m, x, d, a⟩ := r
  have hm := Lib.hid (show mayR ⟨k, m, x, d, a⟩ = decide (-604799 ≤ a ∧ a ≤ 604799 ∧ (k = 0 ∧ 1 ≤ d ∧ d ≤ 365 ∧ m = 0 ∧ x = 0 ∨ k = 1 ∧ 0 ≤ d ∧ d ≤ 365 ∧ m = 0 ∧ x = 0 ∨ k = 2 ∧ 1 ≤ m ∧ m ≤ 12 ∧ 1 ≤ x ∧ x ≤ 5 ∧ 0 ≤ d ∧ d ≤ 6)) from rfl)
  by_cases a1 : a < -604799
  · go_enter Tryz.func60, Tryz.ntmps60
    go_wp2
    go_ret
    exact ⟨ret_bool (by rw [hm.out]; simp; omega), (Kept.refl _).alloc _⟩
  by_cases a2 : 604799 < a
  · go_enter Tryz.func60, Tryz.ntmps60
    go_wp2
    go_ret
    exact ⟨ret_bool (by rw [hm.out]; simp; omega), (Kept.refl _).alloc _⟩
  by_cases k0 : k = 0
  · subst k0
    have hb := Lib.hid (show mayR ⟨0, m, x, d, a⟩ = decide (1 ≤ d ∧ d ≤ 365 ∧ m = 0 ∧ x = 0) by rw [hm.out, Bool.eq_iff_iff]; simp; omega)
    clear hm
    go_enter Tryz.func60, Tryz.ntmps60
    go_wp2
    all_goals
      go_ret
      refine ⟨ret_bool ?_, (Kept.refl _).alloc _⟩
      first | (rw [hb.out]; simp; omega) | (rw [hb.out, Bool.eq_iff_iff]; simp; omega) | (simp [mayR]; omega) | (rw [Bool.eq_iff_iff]; simp [mayR]; omega)
  by_cases k1 : k = 1
  · subst k1
    have hb := Lib.hid (show mayR ⟨1, m, x, d, a⟩ = decide (0 ≤ d ∧ d ≤ 365 ∧ m = 0 ∧ x = 0) by rw [hm.out, Bool.eq_iff_iff]; simp; omega)
    clear hm
    go_enter Tryz.func60, Tryz.ntmps60
    go_wp2
    all_goals
      go_ret
      refine ⟨ret_bool ?_, (Kept.refl _).alloc _⟩
      first | (rw [hb.out]; simp; omega) | (rw [hb.out, Bool.eq_iff_iff]; simp; omega) | (simp [mayR]; omega) | (rw [Bool.eq_iff_iff]; simp [mayR]; omega)
  by_cases k2 : k = 2
  · subst k2
    have hb := Lib.hid (show mayR ⟨2, m, x, d, a⟩ = decide (1 ≤ m ∧ m ≤ 12 ∧ 1 ≤ x ∧ x ≤ 5 ∧ 0 ≤ d ∧ d ≤ 6) by rw [hm.out, Bool.eq_iff_iff]; simp; omega)
    clear hm
    go_enter Tryz.func60, Tryz.ntmps60
    go_wp2
    all_goals
      go_ret
      refine ⟨ret_bool ?_, (Kept.refl _).alloc _⟩
      rw [hb.out]
      first | (simp; omega) | (rw [Bool.eq_iff_iff]; simp; omega)
  have hb := Lib.hid (show mayR ⟨k, m, x, d, a⟩ = false by rw [hm.out]; simp; omega)
  clear hm
  go_enter Tryz.func60, Tryz.ntmps60
  go_wp2
  go_ret
  exact ⟨ret_bool hb.out.symm, (Kept.refl _).alloc _⟩
set_option maxRecDepth 100000 in
theorem eq_rule (a b : Ru) (w : World) : (Op.equalIn 10000 23 (ruV a) (ruV b)).run Tryz.prog w = .ok (ruE a b) w := by
  obtain ⟨a1, a2, a3, a4, a5⟩ := a
  obtain ⟨b1, b2, b3, b4, b5⟩ := b
  have h1 : Tryz.prog.stoodInHeld 23 = false := by kernel_rfl
  rw [run_equalIn_struct w 9999 23 _ _ (by simp [go_sem]) h1]
  unfold ruE
  simp [go_sem]
  simp only [if_ok, if_bb, Bool.and_true]
  rfl
theorem eql_rule (a b : Ru) (w : World) : (binOp .eql 23 (ruV a) (ruV b)).run Tryz.prog w = .ok (.bool (ruE a b)) w := by
  rw [run_eql_struct, eq_rule]; rfl
theorem mayZ_F {z : Zo} (h1 : mayN z.std = true) (h2 : offB z.off = true) (h3 : z.has = false) : mayZ z = (decide (z.dst = []) && (decide (z.ahead = 0) && (ruE z.fr ru0 && ruE z.to ru0))) := by
  obtain ⟨std, off, has, dst, ahead, ⟨fk, fm, fw, fd, fa⟩, ⟨tk, tm, tw, td, ta⟩⟩ := z
  simp only at h1 h2 h3
  subst h3
  rw [Bool.eq_iff_iff]
  simp [mayZ, h1, h2, ruE, ru0, and_assoc]
theorem mayZ_T {z : Zo} (h1 : mayN z.std = true) (h2 : offB z.off = true) (h3 : z.has = true) : mayZ z = (mayN z.dst && (decide (z.ahead = z.off + 3600) || offB z.ahead) && mayR z.fr && mayR z.to) := by
  unfold mayZ; rw [h1, h2, h3, if_pos rfl, Bool.true_and, Bool.true_and]
theorem mayZ_N {z : Zo} (h1 : mayN z.std = false) : mayZ z = false := by unfold mayZ; rw [h1]; rfl
theorem mayZ_O {z : Zo} (h1 : offB z.off = false) : mayZ z = false := by unfold mayZ; rw [h1, Bool.and_false]; rfl
set_option maxRecDepth 100000 in
set_option maxHeartbeats 4000000 in
theorem rMay_any (z : Zo) (w : World) (l1 : z.std.length ≤ 1000) (l2 : z.dst.length ≤ 1000) :
    Calls Tryz.prog 29 #[zoV z] w fun e w' => e = .returned (.bool (mayZ z)) ∧ Kept w w' := by
  have B0 := Lib.hid (bz_new w z)
  have KW := Lib.hid ((Kept.refl w).alloc (.cells (zo15 z.std z.off z.has z.dst z.ahead z.fr.k z.fr.m z.fr.w z.fr.d z.fr.a z.to.k z.to.m z.to.w z.to.d z.to.a) 25))
  have hE1 : ∀ W, (binOp .eql 23 (.agg #[.int .i64 z.fr.k, .int .i64 z.fr.m, .int .i64 z.fr.w, .int .i64 z.fr.d, .int .i64 z.fr.a]) (.agg #[.int .i64 0, .int .i64 0, .int .i64 0, .int .i64 0, .int .i64 0])).run Tryz.prog W = .ok (.bool (ruE z.fr ru0)) W := fun W => eql_rule z.fr ru0 W
  have hE2 : ∀ W, (binOp .eql 23 (.agg #[.int .i64 z.to.k, .int .i64 z.to.m, .int .i64 z.to.w, .int .i64 z.to.d, .int .i64 z.to.a]) (.agg #[.int .i64 0, .int .i64 0, .int .i64 0, .int .i64 0, .int .i64 0])).run Tryz.prog W = .ok (.bool (ruE z.to ru0)) W := fun W => eql_rule z.to ru0 W
  go_enter Tryz.func29, Tryz.ntmps29
  go_upto_region 1 with (fail)
  generalize w.alloc (.cells (zo15 z.std z.off z.has z.dst z.ahead z.fr.k z.fr.m z.fr.w z.fr.d z.fr.a z.to.k z.to.m z.to.w z.to.d z.to.a) 25) = x at *
  have c0 := B0.out.cs.c0
  have c1 := B0.out.cs.c1
  have c2 := B0.out.cs.c2
  have c3 := B0.out.cs.c3
  have c4 := B0.out.cs.c4
  have c5 := B0.out.cs.c5
  have c6 := B0.out.cs.c6
  have c7 := B0.out.cs.c7
  have c8 := B0.out.cs.c8
  have c9 := B0.out.cs.c9
  have c10 := B0.out.cs.c10
  have c11 := B0.out.cs.c11
  have c12 := B0.out.cs.c12
  have c13 := B0.out.cs.c13
  have c14 := B0.out.cs.c14
  go_wp2_with fail
  refine (rName_any z.std _ (by omega)).mono ?_
  rintro e x1 ⟨rfl, rfl⟩
  go_wp2_with fail
  refine (off_any z.off _).mono ?_
  rintro e x1 ⟨rfl, rfl⟩
  cases h1 : mayN z.std with
  | false =>
    have HZ := Lib.hid (mayZ_N h1)
    go_wp2
    go_ret
    exact ⟨ret_bool HZ.out.symm, KW.out⟩
  | true =>
    cases h2 : offB z.off with
    | false =>
      have HZ := Lib.hid (mayZ_O h2)
      go_wp2
      go_ret
      exact ⟨ret_bool HZ.out.symm, KW.out⟩
    | true =>
      cases h3 : z.has with
      | false =>
        have HZ := Lib.hid (mayZ_F h1 h2 h3)
        clear h1 h2
        rw [h3] at c2
        by_cases d1 : z.dst = []
        · rw [d1] at c3
          by_cases d2 : z.ahead = 0
          · rw [d2] at c4
            cases d3 : ruE z.fr ru0 with
            | true =>
              rw [d3] at hE1
              have HY := Lib.hid (show mayZ z = ruE z.to ru0 by rw [HZ.out, d1, d2, d3]; simp)
              clear HZ d1 d2 d3 h3
              go_wp2
              go_ret
              exact ⟨ret_bool HY.out.symm, KW.out⟩
            | false =>
              rw [d3] at hE1
              have HY := Lib.hid (show mayZ z = false by rw [HZ.out, d1, d2, d3]; simp)
              clear HZ d1 d2 d3 h3
              go_wp2
              go_ret
              exact ⟨ret_bool HY.out.symm, KW.out⟩
          · have HY := Lib.hid (show mayZ z = false by rw [HZ.out]; simp [d2])
            clear HZ d1 h3
            go_wp2
            go_ret
            exact ⟨ret_bool HY.out.symm, KW.out⟩
        · have HY := Lib.hid (show mayZ z = false by rw [HZ.out]; simp [d1])
          have d1' : (z.dst == []) = false := by simpa using d1
          clear HZ h3
          go_wp2
          go_ret
          exact ⟨ret_bool HY.out.symm, KW.out⟩
      | true =>
        have HZ := Lib.hid (mayZ_T h1 h2 h3)
        obtain ⟨o1, o2⟩ := off_bd h2
        have hw36 : wrap64 (z.off + 3600) = z.off + 3600 := by unfold wrap64; omega
        rw [h3] at c2
        clear h1 h2 h3 hE1 hE2
        go_wp2_with fail
        refine (rName_any z.dst _ (by omega)).mono ?_
        rintro e x1 ⟨rfl, rfl⟩
        go_wp2_with fail
        refine (off_any z.ahead _).mono ?_
        rintro e x1 ⟨rfl, rfl⟩
        go_wp2_with fail
        refine (rRule_any z.fr _).mono ?_
        rintro e x1 ⟨rfl, k1⟩
        have B1 := Lib.hid (B0.out.kept k1)
        have K1 := Lib.hid (KW.out.trans k1)
        clear c0 c1 c2 c3 c4 c5 c6 c7 c8 c9 c10 c11 c12 c13 c14 B0 KW k1
        have c0 := B1.out.cs.c0
        have c1 := B1.out.cs.c1
        have c2 := B1.out.cs.c2
        have c3 := B1.out.cs.c3
        have c4 := B1.out.cs.c4
        have c5 := B1.out.cs.c5
        have c6 := B1.out.cs.c6
        have c7 := B1.out.cs.c7
        have c8 := B1.out.cs.c8
        have c9 := B1.out.cs.c9
        have c10 := B1.out.cs.c10
        have c11 := B1.out.cs.c11
        have c12 := B1.out.cs.c12
        have c13 := B1.out.cs.c13
        have c14 := B1.out.cs.c14
        go_wp2_with fail
        refine (rRule_any z.to _).mono ?_
        rintro e x2 ⟨rfl, k2⟩
        have B2 := Lib.hid (B1.out.kept k2)
        have K2 := Lib.hid (K1.out.trans k2)
        clear c0 c1 c2 c3 c4 c5 c6 c7 c8 c9 c10 c11 c12 c13 c14 B1 K1 k2
        have c1 := B2.out.cs.c1
        have c4 := B2.out.cs.c4
        generalize mayN z.dst = b1 at *
        generalize offB z.ahead = b2 at *
        generalize mayR z.fr = b3 at *
        generalize mayR z.to = b4 at *
        have hd : (decide (z.ahead = z.off + 3600)) = (z.ahead == z.off + 3600) := rfl
        by_cases he : z.ahead = z.off + 3600
        · have hf : (z.ahead == z.off + 3600) = true := by simp [he]
          have HY := Lib.hid (show mayZ z = (b1 && b3 && b4) by rw [HZ.out, hd, hf]; cases b1 <;> cases b2 <;> rfl)
          clear HZ hd
          cases b1 <;> cases b2 <;> cases b3 <;> cases b4
          all_goals
            go_wp2
            go_ret
            exact ⟨ret_bool (by rw [HY.out]; simp), K2.out⟩
        · have hf : (z.ahead == z.off + 3600) = false := by simp [he]
          have HY := Lib.hid (show mayZ z = (b1 && b2 && b3 && b4) by rw [HZ.out, hd, hf]; cases b1 <;> cases b2 <;> rfl)
          clear HZ hd
          cases b1 <;> cases b2 <;> cases b3 <;> cases b4
          all_goals
            go_wp2
            go_ret
            exact ⟨ret_bool (by rw [HY.out]; simp), K2.out⟩
end Go.Proofs.YtilgamjahediiaaGreatDoor
