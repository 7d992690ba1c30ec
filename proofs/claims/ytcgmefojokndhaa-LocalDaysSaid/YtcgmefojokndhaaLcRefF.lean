/- Contracts of the document's answer for layer 4: the seconds of a day and time. -/
import Derived.Test.YtcgmefojokndhaaLcCiv
import Derived.Test.YtcgmefojokndhaaLcOf
import Derived.Deep.Cut
namespace Go.Proofs.Ytcgmefojokndhaa
open Go.ChangeShapes Go.WideShapes Go.ChangeAt Go.RowKit
open Civ Zn Lc
/-- a second, if it has the day and time -/
noncomputable def rp (z : Zo) (n u : Int) : List Int := if scB u = true ∧ u + offP z u = n then [u] else []
def secB (z : Zo) (n : Int) : Int := if z.has = true ∧ z.ahead ≠ z.off then n - z.ahead else -1
theorem rp_pick (z : Zo) (n o : Int) : rp z n (n - o) = pick z n o := by
  unfold rp pick
  by_cases h : scB (n - o) = true ∧ offP z (n - o) = o
  · rw [if_pos h, if_pos ⟨h.1, by omega⟩]
  · rw [if_neg h, if_neg (fun k => h ⟨k.1, by omega⟩)]
theorem rp_neg (z : Zo) (n u : Int) (hu : u < 0) : rp z n u = [] := by
  unfold rp
  rw [if_neg]
  rintro ⟨h, _⟩
  simp [scB] at h
  omega
theorem rp_of (z : Zo) (n : Int) : rp z n (min (n - z.off) (secB z n)) ++ rp z n (max (n - z.off) (secB z n)) = ofL z n := by
  unfold ofL offsL secB
  split
  · simp only [List.flatMap_cons, List.flatMap_nil, List.append_nil]
    rw [← rp_pick, ← rp_pick]
    rw [show min (n - z.off) (n - z.ahead) = n - max z.off z.ahead by omega, show max (n - z.off) (n - z.ahead) = n - min z.off z.ahead by omega]
  · simp only [List.flatMap_cons, List.flatMap_nil, List.append_nil]
    rw [← rp_pick]
    by_cases h : -1 < n - z.off
    · rw [show min (n - z.off) (-1) = -1 by omega, show max (n - z.off) (-1) = n - z.off by omega, rp_neg z n (-1) (by omega), List.nil_append]
    · rw [show min (n - z.off) (-1) = n - z.off by omega, show max (n - z.off) (-1) = -1 by omega, rp_neg z n (-1) (by omega), List.append_nil]
theorem rp_len (z : Zo) (n u : Int) : (rp z n u).length ≤ 1 := by unfold rp; split <;> simp
/-- the day and time there, beside one that is asked for -/
def AtC (z : Zo) (u y m d h i s : Int) (w : World) (e : Ending) (w' : World) : Prop :=
  ∃ a b c f g q er : Int, e = .returned (.tuple #[civ a b c f g q, .int .i64 er]) ∧ Kept w w' ∧
    (((scB u = true ∧ u + offP z u = sec y m d h i s) ∧ er = 0 ∧ cvE a b c f g q y m d h i s = true) ∨ (¬ (scB u = true ∧ u + offP z u = sec y m d h i s) ∧ (er = 1 ∨ er = 0 ∧ cvE a b c f g q y m d h i s = false)))
theorem rAt_c (z : Zo) (u y m d h i s : Int) (w : World) (l1 : z.std.length ≤ 1000) (l2 : z.dst.length ≤ 1000) (hz : mayZ z = true) (k : okP y m d) (kt : tmB h i s = true) :
    Calls Try.prog 18 #[zoV z, .int .i64 u] w (AtC z u y m d h i s w) := by
  by_cases hu : scB u = true
  · by_cases hc : inCal (u + offP z u)
    · refine (rAt_yes z u w l1 l2 hz hu hc).mono ?_
      rintro e w' ⟨hD, rfl, hk⟩
      refine ⟨_, _, _, _, _, _, _, rfl, hk, ?_⟩
      have hE := cvE_at k kt hD
      by_cases hv : u + offP z u = sec y m d h i s
      · exact Or.inl ⟨⟨hu, hv⟩, rfl, by rw [hE]; simpa using hv⟩
      · exact Or.inr ⟨fun q => hv q.2, Or.inr ⟨rfl, by rw [hE]; simpa using hv⟩⟩
    · refine (rAt_out z u w l1 l2 hz hu hc).mono ?_
      rintro e w' ⟨rfl, hk⟩
      exact ⟨_, _, _, _, _, _, _, rfl, hk, Or.inr ⟨fun q => hc (by rw [q.2]; exact (cv_sec k kt).2), Or.inl rfl⟩⟩
  · refine (rAt_not z u w l1 l2 (by simp [hu])).mono ?_
    rintro e w' ⟨rfl, hk⟩
    exact ⟨_, _, _, _, _, _, _, rfl, hk, Or.inr ⟨fun q => hu q.1, Or.inl rfl⟩⟩
theorem may_ahead {z : Zo} (hz : mayZ z = true) : -89999 ≤ z.ahead ∧ z.ahead ≤ 93599 := by
  cases hh : z.has with
  | true => have := may_T hz hh; omega
  | false =>
    simp only [mayZ, hh, Bool.and_eq_true, Bool.false_eq_true, if_false, decide_eq_true_eq] at hz
    have := hz.2.2.1
    omega
def OutIn (B : Nat) (X : World) (l : List Int) (v : Value) (x : World) : Prop := ∃ ao cap, v = .slice ao l.length cap ∧ Out B v l x ∧ Kept X x
theorem outIn_app {B : Nat} {X y w7 : World} {l : List Int} {u : Int} {v v' : Value} (hB : X.heap.size ≤ B) (hl : Out B v l y) (hk : Kept X y) {o : Obj} (hg : (y.alloc o).grownBy w7 v.ownBlock)
    (hown' : w7.ownsRow B 3 1 v' (l.length + 1) ((l.map fun n => Value.int .i64 n) ++ [.int .i64 u])) : OutIn B X (l ++ [u]) v' w7 := by
  obtain ⟨g3, cap3, hv3⟩ : ∃ g3 cap3, v' = .slice (some ⟨g3, 0, none⟩) (l.length + 1) cap3 := by
    rcases hown'.2 with ⟨_, hx⟩ | ⟨g3, cap3, _, hx, _⟩
    · omega
    · exact ⟨g3, cap3, hx⟩
  have kk : Kept X w7 := ⟨hg.os.trans hk.os, hg.output.trans hk.output, by have := hk.size; have := hg.size; simp at this; omega, fun j hj => by
    have q1 := hk.size
    have q3 := hl.lt
    rw [hg.block j (by simp; omega) (fun e => by have := q3 j (e.symm); omega), Below.heap_alloc _ _ _ (by omega), hk.block j hj], hg.tape.trans hk.tape⟩
  exact ⟨some ⟨g3, 0, none⟩, cap3, by rw [hv3]; simp, by unfold Out; rw [List.map_append, List.length_append]; exact hown', kk⟩
set_option maxRecDepth 100000 in
set_option maxHeartbeats 4000000 in
theorem rlof_yes (z : Zo) (y m d h i s : Int) (w : World) (l1 : z.std.length ≤ 1000) (l2 : z.dst.length ≤ 1000) (hz : mayZ z = true) (k : okP y m d) (kt : tmB h i s = true) (y1 : 1970 ≤ y) (y2 : y ≤ 9998) :
    Calls Try.prog 20 #[zoV z, civ y m d h i s] w (OfPost (ofL z (sec y m d h i s)) w) := by
  have sb := sec_bd k kt
  have ob := may_off hz
  have ab := may_ahead hz
  have HM := Lib.hid (show mayB y m d h i s = true from (by unfold mayB; rw [(okB_iff y m d).2 k, kt]; rfl))
  have RO := Lib.hid (rp_of z (sec y m d h i s))
  have HZ := Lib.hid hz
  have K := Lib.hid k; have KT := Lib.hid kt
  clear hz k kt
  obtain ⟨i0, hi, hz0, hz1, hz2⟩ := info_parts (show (Try.prog.info? 3).map (fun i => (i.zero, i.size, i.bytes)) = some (some (.int .i64 0), 1, 8) by kernel_rfl)
  have B0 := Lib.hid (bz_new w z)
  have K0 := Lib.hid ((Kept.refl w).alloc (.cells (zo15 z.std z.off z.has z.dst z.ahead z.fr.k z.fr.m z.fr.w z.fr.d z.fr.a z.to.k z.to.m z.to.w z.to.d z.to.a) 25))
  go_enter Try.func20, Try.ntmps20
  go_upto_region 1 with (fail)
  generalize hx : w.alloc (.cells (zo15 z.std z.off z.has z.dst z.ahead z.fr.k z.fr.m z.fr.w z.fr.d z.fr.a z.to.k z.to.m z.to.w z.to.d z.to.a) 25) = x at *
  have s1 : x.heap.size = w.heap.size + 1 := by rw [← hx]; simp
  clear hx
  have b1 : Bc x.heap.size y m d h i s (x.alloc (.cells #[.int .i64 y, .int .i64 m, .int .i64 d, .int .i64 h, .int .i64 i, .int .i64 s] 35)) := new_block x _
  have k1 := (Kept.refl x).alloc (.cells #[.int .i64 y, .int .i64 m, .int .i64 d, .int .i64 h, .int .i64 i, .int .i64 s] 35)
  rw [s1] at b1
  generalize x.alloc (.cells #[.int .i64 y, .int .i64 m, .int .i64 d, .int .i64 h, .int .i64 i, .int .i64 s] 35) = x1 at *
  have B1 := Lib.hid (B0.out.kept k1)
  have C1 := Lib.hid b1
  have K1 := Lib.hid (K0.out.trans k1)
  clear B0 K0 k1 b1 s1
  go_wp2_with (refine wpList_load_row rfl 25 _ rfl w.heap.size rfl 25 _ (0, 0) _ B1.out Try.underlying25 rfl (by kernel_rfl) ?_)
  refine (rMay_any z _ (by omega) (by omega)).mono ?_
  rintro e w2 ⟨rfl, k2⟩
  rw [HZ.out]
  have B2 := Lib.hid (B1.out.kept k2)
  have C2 := Lib.hid (C1.out.kept k2)
  have K2 := Lib.hid (K1.out.trans k2)
  clear B1 C1 K1 k2
  have e0 := cell_of C2.out (j := 0) rfl
  have e1 := cell_of C2.out (j := 1) rfl
  have e2 := cell_of C2.out (j := 2) rfl
  have e3 := cell_of C2.out (j := 3) rfl
  have e4 := cell_of C2.out (j := 4) rfl
  have e5 := cell_of C2.out (j := 5) rfl
  go_wp2_with fail
  refine (rmay_any y m d h i s _).mono ?_
  rintro e w3 ⟨rfl, k3⟩
  rw [HM.out]
  have B3 := Lib.hid (B2.out.kept k3)
  have C3 := Lib.hid (C2.out.kept k3)
  have K3 := Lib.hid (K2.out.trans k3)
  clear e0 e1 e2 e3 e4 e5 B2 C2 K2 k3
  have e0 := cell_of C3.out (j := 0) rfl
  have e1 := cell_of C3.out (j := 1) rfl
  have e2 := cell_of C3.out (j := 2) rfl
  have e3 := cell_of C3.out (j := 3) rfl
  have e4 := cell_of C3.out (j := 4) rfl
  have e5 := cell_of C3.out (j := 5) rfl
  go_wp2_with fail
  refine (rof_yes y m d h i s _ K.out KT.out).mono ?_
  rintro e w4 ⟨rfl, k4⟩
  generalize hn : sec y m d h i s = n at *
  have HN := Lib.hid hn; clear hn
  have B4 := Lib.hid (B3.out.kept k4)
  have C4 := Lib.hid (C3.out.kept k4)
  have K4 := Lib.hid (K3.out.trans k4)
  clear e0 e1 e2 e3 e4 e5 B3 C3 K3 k4
  have c1 := B4.out.cs.c1
  have c2 := B4.out.cs.c2
  have c4 := B4.out.cs.c4
  go_upto_region 8 with (fail)
  have HB := Lib.hid (show secB z n = if decide (z.has = true ∧ z.ahead ≠ z.off) = false then -1 else n - z.ahead by
    unfold secB; by_cases h : z.has = true ∧ z.ahead ≠ z.off
    · rw [if_pos h, if_neg (by simpa using h)]
    · rw [if_neg h, if_pos (by simpa using h)])
  go_cut [57] from 98 (fun v x => v = .bool (!decide (z.has = true ∧ z.ahead ≠ z.off)) ∧ w4 = x)
  case first =>
    by_cases hh : z.has = true
    · by_cases he : z.ahead = z.off
      · have HH := Lib.hid hh; clear hh
        have HE := Lib.hid he
        rw [HH.out] at c2
        go_wp2
        go_meet
        exact ⟨by simp [HE.out], rfl⟩
      · have HH := Lib.hid hh; clear hh
        rw [HH.out] at c2
        go_wp2
        go_meet
        exact ⟨by simp [he, HH.out], rfl⟩
    · have HH := Lib.hid (show z.has = false by simpa using hh); clear hh
      rw [HH.out] at c2
      go_wp2
      go_meet
      exact ⟨by simp [HH.out], rfl⟩
  case rest =>
    obtain ⟨rfl, rfl⟩ := hcut
    generalize decide (z.has = true ∧ z.ahead ≠ z.off) = hb at *
    go_upto_if 57 with (fail)
    go_cut [11] from 98 (fun v x => v = .int .i64 (secB z n) ∧ w4 = x)
    case first =>
      cases hb with
      | false =>
        go_wp2
        go_meet
        exact ⟨by rw [HB.out]; rfl, rfl⟩
      | true =>
        go_wp2
        go_meet
        exact ⟨by rw [HB.out]; rfl, rfl⟩
    case rest =>
      obtain ⟨rfl, rfl⟩ := hcut
      have bB : -200000000000 ≤ secB z n ∧ secB z n ≤ 400000000000 := by unfold secB; split <;> omega
      have RO' := RO.out
      clear RO HB
      generalize secB z n = b at *
      go_upto_if 60 with (fail)
      go_cut [10, 11] from 98 (fun u v x => u = .int .i64 (min (n - z.off) b) ∧ v = .int .i64 (max (n - z.off) b) ∧ w4 = x)
      case first =>
        by_cases hlt : b < n - z.off
        · go_wp2
          go_meet
          exact ⟨by rw [show min (n - z.off) b = b by omega], by rw [show max (n - z.off) b = n - z.off by omega], rfl⟩
        · go_wp2
          go_meet
          exact ⟨by rw [show min (n - z.off) b = n - z.off by omega], by rw [show max (n - z.off) b = b by omega], rfl⟩
      case rest =>
        obtain ⟨rfl, rfl, rfl⟩ := hcut
        generalize min (n - z.off) b = u1 at *
        generalize max (n - z.off) b = u2 at *
        have kl := K4.out.size
        have A1 := Lib.hid (rp_len z n u1); have A2 := Lib.hid (rp_len z n u2)
        have c0 := B4.out.cs.c0
        have c3 := B4.out.cs.c3
        have c5 := B4.out.cs.c5
        have c6 := B4.out.cs.c6
        have c7 := B4.out.cs.c7
        have c8 := B4.out.cs.c8
        have c9 := B4.out.cs.c9
        have c10 := B4.out.cs.c10
        have c11 := B4.out.cs.c11
        have c12 := B4.out.cs.c12
        have c13 := B4.out.cs.c13
        have c14 := B4.out.cs.c14
        go_wp2_with fail
        refine (rAt_c z u1 y m d h i s _ l1 l2 HZ.out K.out KT.out).mono ?_
        rintro e w5 ⟨v0, v1, v2, v3, v4, v5, er, rfl, k5, hA⟩
        rw [HN.out] at hA
        clear c0 c1 c2 c3 c4 c5 c6 c7 c8 c9 c10 c11 c12 c13 c14
        have HA := Lib.hid hA; clear hA
        go_upto_region 14 with (fail)
        have kc := (Kept.refl w5).alloc (.cells #[.int .i64 v0, .int .i64 v1, .int .i64 v2, .int .i64 v3, .int .i64 v4, .int .i64 v5] 35)
        have nc := new_block w5 (.cells #[.int .i64 v0, .int .i64 v1, .int .i64 v2, .int .i64 v3, .int .i64 v4, .int .i64 v5] 35)
        generalize w5.heap.size = q at *
        generalize w5.alloc (.cells #[.int .i64 v0, .int .i64 v1, .int .i64 v2, .int .i64 v3, .int .i64 v4, .int .i64 v5] 35) = X at *
        have B5 := Lib.hid ((B4.out.kept k5).kept kc)
        have C5 := Lib.hid ((C4.out.kept k5).kept kc)
        have K5 := Lib.hid ((K4.out.trans k5).trans kc)
        have NC := Lib.hid nc
        clear B4 C4 K4 k5 kc nc
        have hE : ∀ W, (binOp .eql 35 (.agg #[.int .i64 v0, .int .i64 v1, .int .i64 v2, .int .i64 v3, .int .i64 v4, .int .i64 v5]) (.agg #[.int .i64 y, .int .i64 m, .int .i64 d, .int .i64 h, .int .i64 i, .int .i64 s])).run Try.prog W = .ok (.bool (cvE v0 v1 v2 v3 v4 v5 y m d h i s)) W := fun W => eql_civ v0 v1 v2 v3 v4 v5 y m d h i s W
        have d0 := cell_of NC.out (j := 0) rfl
        have d1 := cell_of NC.out (j := 1) rfl
        have d2 := cell_of NC.out (j := 2) rfl
        have d3 := cell_of NC.out (j := 3) rfl
        have d4 := cell_of NC.out (j := 4) rfl
        have d5 := cell_of NC.out (j := 5) rfl
        have e0 := cell_of C5.out (j := 0) rfl
        have e1 := cell_of C5.out (j := 1) rfl
        have e2 := cell_of C5.out (j := 2) rfl
        have e3 := cell_of C5.out (j := 3) rfl
        have e4 := cell_of C5.out (j := 4) rfl
        have e5 := cell_of C5.out (j := 5) rfl
        go_cut [75] from 98 (fun v x => v = .bool (decide (scB u1 = true ∧ u1 + offP z u1 = n)) ∧ X = x)
        case first =>
          rcases HA.out with ⟨hh, hr, hq⟩ | ⟨hh, hr | ⟨hr, hq⟩⟩
          · have HH := Lib.hid hh; clear hh
            rw [hq] at hE
            subst hr
            clear hq
            go_wp2
            go_meet
            exact ⟨by rw [decide_eq_true HH.out], rfl⟩
          · have HH := Lib.hid hh; clear hh
            subst hr
            go_wp2
            go_meet
            exact ⟨by rw [decide_eq_false HH.out], rfl⟩
          · have HH := Lib.hid hh; clear hh
            rw [hq] at hE
            subst hr
            clear hq
            go_wp2
            go_meet
            exact ⟨by rw [decide_eq_false HH.out], rfl⟩
        case rest =>
          obtain ⟨rfl, rfl⟩ := hcut
          clear hE d0 d1 d2 d3 d4 d5 e0 e1 e2 e3 e4 e5 HA NC
          have R1 := Lib.hid (show rp z n u1 = if decide (scB u1 = true ∧ u1 + offP z u1 = n) = true then [u1] else [] by
            unfold rp; by_cases hp : scB u1 = true ∧ u1 + offP z u1 = n
            · rw [if_pos hp, if_pos (by simpa using hp)]
            · rw [if_neg hp, if_neg (by simpa using hp)])
          generalize decide (scB u1 = true ∧ u1 + offP z u1 = n) = t1 at *
          go_upto_if 75 with (fail)
          go_cut [12] from 98 (fun v x => OutIn X.heap.size X (rp z n u1) v x)
          case first =>
            cases t1 with
            | false =>
              go_wp2
              go_meet
              exact ⟨none, 0, by rw [R1.out]; rfl, by rw [R1.out]; exact World.ownsRow_nil _ _ _ _, Kept.refl _⟩
            | true =>
              go_wp2_with (at_builtin; refine wpList_append_own _ rfl _ _ 39 rfl X.heap.size 3 i0 (.int .i64 0) 1 8 Try.underlying39 hi hz0 hz1 hz2 rfl (by decide) (.slice none 0 0) 0 [] rfl (World.ownsRow_nil _ _ _ _) ⟨X.heap.size, 0, none⟩ 1 1 [.int .i64 u1] rfl rfl (cell_one_new _ _ _) (fun x hx => by simp at hx; subst hx; rfl) (by unfold maxLen; omega) (by omega) (by simp) ?_; intro v' w7 hown' hgrow hnil)
              go_meet
              rw [R1.out]
              exact outIn_app (l := []) (v := .slice none 0 0) (Nat.le_refl _) (World.ownsRow_nil _ _ _ _) (Kept.refl X) hgrow hown'
          case rest =>
            obtain ⟨ao, cap, rfl, hown, hkx⟩ := hcut
            have OW := Lib.hid hown
            have HX := Lib.hid hkx
            have B6 := Lib.hid (B5.out.kept hkx)
            have C5' := Lib.hid (C5.out.kept hkx)
            clear C5; have C5 := C5'; clear C5'
            clear hown hkx R1
            have c0 := B6.out.cs.c0
            have c1 := B6.out.cs.c1
            have c2 := B6.out.cs.c2
            have c3 := B6.out.cs.c3
            have c4 := B6.out.cs.c4
            have c5 := B6.out.cs.c5
            have c6 := B6.out.cs.c6
            have c7 := B6.out.cs.c7
            have c8 := B6.out.cs.c8
            have c9 := B6.out.cs.c9
            have c10 := B6.out.cs.c10
            have c11 := B6.out.cs.c11
            have c12 := B6.out.cs.c12
            have c13 := B6.out.cs.c13
            have c14 := B6.out.cs.c14
            go_wp2_with fail
            refine (rAt_c z u2 y m d h i s _ l1 l2 HZ.out K.out KT.out).mono ?_
            rintro e w6 ⟨v0, v1, v2, v3, v4, v5, er', rfl, k6, hA⟩
            rw [HN.out] at hA
            clear c0 c1 c2 c3 c4 c5 c6 c7 c8 c9 c10 c11 c12 c13 c14
            have HA := Lib.hid hA; clear hA
            go_upto_region 17 with (fail)
            have kc := (Kept.refl w6).alloc (.cells #[.int .i64 v0, .int .i64 v1, .int .i64 v2, .int .i64 v3, .int .i64 v4, .int .i64 v5] 35)
            have nc := new_block w6 (.cells #[.int .i64 v0, .int .i64 v1, .int .i64 v2, .int .i64 v3, .int .i64 v4, .int .i64 v5] 35)
            generalize w6.heap.size = q2 at *
            generalize w6.alloc (.cells #[.int .i64 v0, .int .i64 v1, .int .i64 v2, .int .i64 v3, .int .i64 v4, .int .i64 v5] 35) = Y at *
            have C6 := Lib.hid ((C5.out.kept k6).kept kc)
            have O6 := Lib.hid (World.ownsRow.kept (World.ownsRow.kept OW.out (k6.grownBy none) (by cases ao <;> simp [Value.ownBlock])) (kc.grownBy none) (by cases ao <;> simp [Value.ownBlock]))
            have X6 := Lib.hid ((HX.out.trans k6).trans kc)
            have NC := Lib.hid nc
            clear k6 kc nc OW HX B5 C5
            have hE : ∀ W, (binOp .eql 35 (.agg #[.int .i64 v0, .int .i64 v1, .int .i64 v2, .int .i64 v3, .int .i64 v4, .int .i64 v5]) (.agg #[.int .i64 y, .int .i64 m, .int .i64 d, .int .i64 h, .int .i64 i, .int .i64 s])).run Try.prog W = .ok (.bool (cvE v0 v1 v2 v3 v4 v5 y m d h i s)) W := fun W => eql_civ v0 v1 v2 v3 v4 v5 y m d h i s W
            have d0 := cell_of NC.out (j := 0) rfl
            have d1 := cell_of NC.out (j := 1) rfl
            have d2 := cell_of NC.out (j := 2) rfl
            have d3 := cell_of NC.out (j := 3) rfl
            have d4 := cell_of NC.out (j := 4) rfl
            have d5 := cell_of NC.out (j := 5) rfl
            have e0 := cell_of C6.out (j := 0) rfl
            have e1 := cell_of C6.out (j := 1) rfl
            have e2 := cell_of C6.out (j := 2) rfl
            have e3 := cell_of C6.out (j := 3) rfl
            have e4 := cell_of C6.out (j := 4) rfl
            have e5 := cell_of C6.out (j := 5) rfl
            go_cut [92] from 98 (fun v x => v = .bool (decide (scB u2 = true ∧ u2 + offP z u2 = n)) ∧ Y = x)
            case first =>
              rcases HA.out with ⟨hh, hr, hq⟩ | ⟨hh, hr | ⟨hr, hq⟩⟩
              · have HH := Lib.hid hh; clear hh
                rw [hq] at hE
                subst hr
                clear hq
                go_wp2
                go_meet
                exact ⟨by rw [decide_eq_true HH.out], rfl⟩
              · have HH := Lib.hid hh; clear hh
                subst hr
                go_wp2
                go_meet
                exact ⟨by rw [decide_eq_false HH.out], rfl⟩
              · have HH := Lib.hid hh; clear hh
                rw [hq] at hE
                subst hr
                clear hq
                go_wp2
                go_meet
                exact ⟨by rw [decide_eq_false HH.out], rfl⟩
            case rest =>
              obtain ⟨rfl, rfl⟩ := hcut
              clear hE d0 d1 d2 d3 d4 d5 e0 e1 e2 e3 e4 e5 HA NC
              have R2 := Lib.hid (show rp z n u2 = if decide (scB u2 = true ∧ u2 + offP z u2 = n) = true then [u2] else [] by
                unfold rp; by_cases hp : scB u2 = true ∧ u2 + offP z u2 = n
                · rw [if_pos hp, if_pos (by simpa using hp)]
                · rw [if_neg hp, if_neg (by simpa using hp)])
              generalize decide (scB u2 = true ∧ u2 + offP z u2 = n) = t2 at *
              go_upto_if 92 with (fail)
              go_cut [12] from 98 (fun v x => OutIn X.heap.size X (rp z n u1 ++ rp z n u2) v x)
              case first =>
                cases t2 with
                | false =>
                  go_wp2
                  go_meet
                  rw [R2.out]
                  exact ⟨ao, cap, by simp, by rw [if_neg (by simp), List.append_nil]; exact O6.out, X6.out⟩
                | true =>
                  go_wp2_with (at_builtin; refine wpList_append_own _ rfl _ _ 39 rfl X.heap.size 3 i0 (.int .i64 0) 1 8 Try.underlying39 hi hz0 hz1 hz2 rfl (by decide) _ _ _ rfl (O6.out.alloc _) ⟨Y.heap.size, 0, none⟩ 1 1 [.int .i64 u2] rfl rfl (cell_one_new _ _ _) (fun x hx => by simp at hx; subst hx; rfl) (by have := A1.out; unfold maxLen; omega) (by have := A1.out; omega) (by have := X6.out.size; simp; omega) ?_; intro v' w7 hown' hgrow hnil)
                  go_meet
                  rw [R2.out]
                  exact outIn_app (Nat.le_refl _) O6.out X6.out hgrow hown'
              case rest =>
                obtain ⟨ao2, cap2, rfl, hown2, hkx2⟩ := hcut
                have kl5 := K5.out.size
                rw [RO'] at *
                go_wp2
                refine bodyPost_ret (v := .tuple #[.slice ao2 (ofL z n).length cap2, .int .i64 0]) (by simp [results, Try.results20, go_sem, *]) rfl ⟨_, rfl, ?_, K5.out.trans hkx2⟩
                refine ⟨hown2.1, hown2.2.imp id ?_⟩
                rintro ⟨g1, p1, p2, h1, h2, h3⟩
                exact ⟨g1, p1, p2, h1, Nat.le_trans kl5 h2, h3⟩
end Go.Proofs.Ytcgmefojokndhaa
