/- Several texts of this seat, one behind the other. -/
import Derived.Test.YtilgamjahediiaaGreatDoorLcR
import Derived.Test.YtilgamjahediiaaGreatDoorLcOf
import Derived.Deep.Cut
/- Contracts of the document's answer for layer 4: the seconds of a day and time. -/
namespace Go.Proofs.YtilgamjahediiaaGreatDoor
open Go.ChangeShapes Go.WideShapes Go.ChangeAt Go.RowKit
open Civ Zn Lc
/-- a second, if it has the day and time -/
noncomputable def rp (z : Zo) (n u : Int) : List Int := if scB u = true ∧ u + offP z u = n then [u] else []
def secB (z : Zo) (n : Int) : Int := if z.has = true ∧ z.ahead ≠ z.off then n - z.ahead else -1
theorem rp_pick (z : Zo) (n o : Int) : rp z n (n - o) = pick z n o := by
  unfold rp pick
  by_cases h : scB (n - o) = true ∧ offP z (n - o) = o
  · rw [if_pos h, if_pos ⟨h.1, by omega⟩]
  · rw [if_neg h, if_neg (fun k => h ⟨k.1, by omega⟩)]
theorem rp_neg (z : Zo) (n u : Int) (hu : u < 0) : rp z n u = [] := by
  unfold rp
  rw [if_neg]
  rintro ⟨h, _⟩
  simp [scB] at h
  omega
theorem rp_of (z : Zo) (n : Int) : rp z n (min (n - z.off) (secB z n)) ++ rp z n (max (n - z.off) (secB z n)) = ofL z n := by
  unfold ofL offsL secB
  split
  · simp only [List.flatMap_cons, List.flatMap_nil, List.append_nil]
    rw [← rp_pick, ← rp_pick]
    rw [show min (n - z.off) (n - z.ahead) = n - max z.off z.ahead by omega, show max (n - z.off) (n - z.ahead) = n - min z.off z.ahead by omega]
  · simp only [List.flatMap_cons, List.flatMap_nil, List.append_nil]
    rw [← rp_pick]
    by_cases h : -1 < n - z.off
    · rw [show min (n - z.off) (-1) = -1 by omega, show max (n - z.off) (-1) = n - z.off by omega, rp_neg z n (-1) (by omega), List.nil_append]
    · rw [show min (n - z.off) (-1) = n - z.off by omega, show max (n - z.off) (-1) = -1 by omega, rp_neg z n (-1) (by omega), List.append_nil]
theorem rp_len (z : Zo) (n u : Int) : (rp z n u).length ≤ 1 := by unfold rp; split <;> simp
/-- the day and time there, beside one that is asked for -/
def AtC (z : Zo) (u y m d h i s : Int) (w : World) (e : Ending) (w' : World) : Prop :=
  ∃ a b c f g q er : Int, e = .returned (.tuple #[civ a b c f g q, .int .i64 er]) ∧ Kept w w' ∧
    (((scB u = true ∧ u + offP z u = sec y m d h i s) ∧ er = 0 ∧ cvE a b c f g q y m d h i s = true) ∨ (¬ (scB u = true ∧ u + offP z u = sec y m d h i s) ∧ (er = 1 ∨ er = 0 ∧ cvE a b c f g q y m d h i s = false)))
theorem rAt_c (z : Zo) (u y m d h i s : Int) (w : World) (l1 : z.std.length ≤ 1000) (l2 : z.dst.length ≤ 1000) (hz : mayZ z = true) (k : okP y m d) (kt : tmB h i s = true) :
    Calls Tryz.prog 33 #[zoV z, .int .i64 u] w (AtC z u y m d h i s w) := by
  by_cases hu : scB u = true
  · by_cases hc : inCal (u + offP z u)
    · refine (rAt_yes z u w l1 l2 hz hu hc).mono ?_
      rintro e w' ⟨hD, rfl, hk⟩
      refine ⟨_, _, _, _, _, _, _, rfl, hk, ?_⟩
      have hE := cvE_at k kt hD
      by_cases hv : u + offP z u = sec y m d h i s
      · exact Or.inl ⟨⟨hu, hv⟩, rfl, by rw [hE]; simpa using hv⟩
      · exact Or.inr ⟨fun q => hv q.2, Or.inr ⟨rfl, by rw [hE]; simpa using hv⟩⟩
    · refine (rAt_out z u w l1 l2 hz hu hc).mono ?_
      rintro e w' ⟨rfl, hk⟩
      exact ⟨_, _, _, _, _, _, _, rfl, hk, Or.inr ⟨fun q => hc (by rw [q.2]; exact (cv_sec k kt).2), Or.inl rfl⟩⟩
  · refine (rAt_not z u w l1 l2 (by simp [hu])).mono ?_
    rintro e w' ⟨rfl, hk⟩
    exact ⟨_, _, _, _, _, _, _, rfl, hk, Or.inr ⟨fun q => hu q.1, Or.inl rfl⟩⟩
theorem may_ahead {z : Zo} (hz : mayZ z = true) : -89999 ≤ z.ahead ∧ z.ahead ≤ 93599 := by
  cases hh : z.has with
  | true => have := may_T hz hh; omega
  | false =>
    simp only [mayZ, hh, Bool.and_eq_true, Bool.false_eq_true, if_false, decide_eq_true_eq] at hz
    have := hz.2.2.1
    omega
def OutIn (B : Nat) (X : World) (l : List Int) (v : Value) (x : World) : Prop := ∃ ao cap, v = .slice ao l.length cap ∧ Out B v l x ∧ Kept X x
theorem outIn_app {B : Nat} {X y w7 : World} {l : List Int} {u : Int} {v v' : Value} (hB : X.heap.size ≤ B) (hl : Out B v l y) (hk : Kept X y) {o : Obj} (hg : (y.alloc o).grownBy w7 v.ownBlock)
    (hown' : w7.ownsRow B 3 1 v' (l.length + 1) ((l.map fun n => Value.int .i64 n) ++ [.int .i64 u])) : OutIn B X (l ++ [u]) v' w7 := by
  obtain ⟨g3, cap3, hv3⟩ : ∃ g3 cap3, v' = .slice (some ⟨g3, 0, none⟩) (l.length + 1) cap3 := by
    rcases hown'.2 with ⟨_, hx⟩ | ⟨g3, cap3, _, hx, _⟩
    · omega
    · exact ⟨g3, cap3, hx⟩
  have kk : Kept X w7 := ⟨hg.os.trans hk.os, hg.output.trans hk.output, by have := hk.size; have := hg.size; simp at this; omega, fun j hj => by
    have q1 := hk.size
    have q3 := hl.lt
    rw [hg.block j (by simp; omega) (fun e => by have := q3 j (e.symm); omega), Below.heap_alloc _ _ _ (by omega), hk.block j hj], hg.tape.trans hk.tape⟩
  exact ⟨some ⟨g3, 0, none⟩, cap3, by rw [hv3]; simp, by unfold Out; rw [List.map_append, List.length_append]; exact hown', kk⟩
set_option maxRecDepth 100000 in
set_option maxHeartbeats 4000000 in
theorem rlof_yes (z : Zo) (y m d h i s : Int) (w : World) (l1 : z.std.length ≤ 1000) (l2 : z.dst.length ≤ 1000) (hz : mayZ z = true) (k : okP y m d) (kt : tmB h i s = true) (y1 : 1970 ≤ y) (y2 : y ≤ 9998) :
    Calls Tryz.prog 69 #[zoV z, civ y m d h i s] w (OfPost (ofL z (sec y m d h i s)) w) := by
  have sb := sec_bd k kt
  have ob := may_off hz
  have ab := may_ahead hz
  have HM := Lib.hid (show mayB y m d h i s = true from (by unfold mayB; rw [(okB_iff y m d).2 k, kt]; rfl))
  have RO := Lib.hid (rp_of z (sec y m d h i s))
  have HZ := Lib.hid hz
  have K := Lib.hid k; have KT := Lib.hid kt
  clear hz k kt
  obtain ⟨i0, hi, hz0, hz1, hz2⟩ := info_parts (show (Tryz.prog.info? 3).map (fun i => (i.zero, i.size, i.bytes)) = some (some (.int .i64 0), 1, 8) by kernel_rfl)
  have B0 := Lib.hid (bz_new w z)
  have K0 := Lib.hid ((Kept.refl w).alloc (.cells (zo15 z.std z.off z.has z.dst z.ahead z.fr.k z.fr.m z.fr.w z.fr.d z.fr.a z.to.k z.to.m z.to.w z.to.d z.to.a) 25))
  go_enter Tryz.func69, Tryz.ntmps69
  go_upto_region 1 with (fail)
  generalize hx : w.alloc (.cells (zo15 z.std z.off z.has z.dst z.ahead z.fr.k z.fr.m z.fr.w z.fr.d z.fr.a z.to.k z.to.m z.to.w z.to.d z.to.a) 25) = x at *
  have s1 : x.heap.size = w.heap.size + 1 := by rw [← hx]; simp
  clear hx
  have b1 : Bc x.heap.size y m d h i s (x.alloc (.cells #[.int .i64 y, .int .i64 m, .int .i64 d, .int .i64 h, .int .i64 i, .int .i64 s] 34)) := new_block x _
  have k1 := (Kept.refl x).alloc (.cells #[.int .i64 y, .int .i64 m, .int .i64 d, .int .i64 h, .int .i64 i, .int .i64 s] 34)
  rw [s1] at b1
  generalize x.alloc (.cells #[.int .i64 y, .int .i64 m, .int .i64 d, .int .i64 h, .int .i64 i, .int .i64 s] 34) = x1 at *
  have B1 := Lib.hid (B0.out.kept k1)
  have C1 := Lib.hid b1
  have K1 := Lib.hid (K0.out.trans k1)
  clear B0 K0 k1 b1 s1
  go_wp2_with (refine wpList_load_row rfl 25 _ rfl w.heap.size rfl 25 _ (0, 0) _ B1.out Tryz.underlying25 rfl (by kernel_rfl) ?_)
  refine (rMay_any z _ (by omega) (by omega)).mono ?_
  rintro e w2 ⟨rfl, k2⟩
  rw [HZ.out]
  have B2 := Lib.hid (B1.out.kept k2)
  have C2 := Lib.hid (C1.out.kept k2)
  have K2 := Lib.hid (K1.out.trans k2)
  clear B1 C1 K1 k2
  have e0 := cell_of C2.out (j := 0) rfl
  have e1 := cell_of C2.out (j := 1) rfl
  have e2 := cell_of C2.out (j := 2) rfl
  have e3 := cell_of C2.out (j := 3) rfl
  have e4 := cell_of C2.out (j := 4) rfl
  have e5 := cell_of C2.out (j := 5) rfl
  go_wp2_with fail
  refine (rmay_any y m d h i s _).mono ?_
  rintro e w3 ⟨rfl, k3⟩
  rw [HM.out]
  have B3 := Lib.hid (B2.out.kept k3)
  have C3 := Lib.hid (C2.out.kept k3)
  have K3 := Lib.hid (K2.out.trans k3)
  clear e0 e1 e2 e3 e4 e5 B2 C2 K2 k3
  have e0 := cell_of C3.out (j := 0) rfl
  have e1 := cell_of C3.out (j := 1) rfl
  have e2 := cell_of C3.out (j := 2) rfl
  have e3 := cell_of C3.out (j := 3) rfl
  have e4 := cell_of C3.out (j := 4) rfl
  have e5 := cell_of C3.out (j := 5) rfl
  go_wp2_with fail
  refine (rof_yes y m d h i s _ K.out KT.out).mono ?_
  rintro e w4 ⟨rfl, k4⟩
  generalize hn : sec y m d h i s = n at *
  have HN := Lib.hid hn; clear hn
  have B4 := Lib.hid (B3.out.kept k4)
  have C4 := Lib.hid (C3.out.kept k4)
  have K4 := Lib.hid (K3.out.trans k4)
  clear e0 e1 e2 e3 e4 e5 B3 C3 K3 k4
  have c1 := B4.out.cs.c1
  have c2 := B4.out.cs.c2
  have c4 := B4.out.cs.c4
  go_upto_region 8 with (fail)
  have HB := Lib.hid (show secB z n = if decide (z.has = true ∧ z.ahead ≠ z.off) = false then -1 else n - z.ahead by
    unfold secB; by_cases h : z.has = true ∧ z.ahead ≠ z.off
    · rw [if_pos h, if_neg (by simpa using h)]
    · rw [if_neg h, if_pos (by simpa using h)])
  go_cut [57] from 98 (fun v x => v = .bool (!decide (z.has = true ∧ z.ahead ≠ z.off)) ∧ w4 = x)
  case first =>
    by_cases hh : z.has = true
    · by_cases he : z.ahead = z.off
      · have HH := Lib.hid hh; clear hh
        have HE := Lib.hid he
        rw [HH.out] at c2
        go_wp2
        go_meet
        exact ⟨by simp [HE.out], rfl⟩
      · have HH := Lib.hid hh; clear hh
        rw [HH.out] at c2
        go_wp2
        go_meet
        exact ⟨by simp [he, HH.out], rfl⟩
    · have HH := Lib.hid (show z.has = false by simpa using hh); clear hh
      rw [HH.out] at c2
      go_wp2
      go_meet
      exact ⟨by simp [HH.out], rfl⟩
  case rest =>
    obtain ⟨rfl, rfl⟩ := hcut
    generalize decide (z.has = true ∧ z.ahead ≠ z.off) = hb at *
    go_upto_if 57 with (fail)
    go_cut [11] from 98 (fun v x => v = .int .i64 (secB z n) ∧ w4 = x)
    case first =>
      cases hb with
      | false =>
        go_wp2
        go_meet
        exact ⟨by rw [HB.out]; rfl, rfl⟩
      | true =>
        go_wp2
        go_meet
        exact ⟨by rw [HB.out]; rfl, rfl⟩
    case rest =>
      obtain ⟨rfl, rfl⟩ := hcut
      have bB : -200000000000 ≤ secB z n ∧ secB z n ≤ 400000000000 := by unfold secB; split <;> omega
      have RO' := RO.out
      clear RO HB
      generalize secB z n = b at *
      go_upto_if 60 with (fail)
      go_cut [10, 11] from 98 (fun u v x => u = .int .i64 (min (n - z.off) b) ∧ v = .int .i64 (max (n - z.off) b) ∧ w4 = x)
      case first =>
        by_cases hlt : b < n - z.off
        · go_wp2
          go_meet
          exact ⟨by rw [show min (n - z.off) b = b by omega], by rw [show max (n - z.off) b = n - z.off by omega], rfl⟩
        · go_wp2
          go_meet
          exact ⟨by rw [show min (n - z.off) b = n - z.off by omega], by rw [show max (n - z.off) b = b by omega], rfl⟩
      case rest =>
        obtain ⟨rfl, rfl, rfl⟩ := hcut
        generalize min (n - z.off) b = u1 at *
        generalize max (n - z.off) b = u2 at *
        have kl := K4.out.size
        have A1 := Lib.hid (rp_len z n u1); have A2 := Lib.hid (rp_len z n u2)
        have c0 := B4.out.cs.c0
        have c3 := B4.out.cs.c3
        have c5 := B4.out.cs.c5
        have c6 := B4.out.cs.c6
        have c7 := B4.out.cs.c7
        have c8 := B4.out.cs.c8
        have c9 := B4.out.cs.c9
        have c10 := B4.out.cs.c10
        have c11 := B4.out.cs.c11
        have c12 := B4.out.cs.c12
        have c13 := B4.out.cs.c13
        have c14 := B4.out.cs.c14
        go_wp2_with fail
        refine (rAt_c z u1 y m d h i s _ l1 l2 HZ.out K.out KT.out).mono ?_
        rintro e w5 ⟨v0, v1, v2, v3, v4, v5, er, rfl, k5, hA⟩
        rw [HN.out] at hA
        clear c0 c1 c2 c3 c4 c5 c6 c7 c8 c9 c10 c11 c12 c13 c14
        have HA := Lib.hid hA; clear hA
        go_upto_region 14 with (fail)
        have kc := (Kept.refl w5).alloc (.cells #[.int .i64 v0, .int .i64 v1, .int .i64 v2, .int .i64 v3, .int .i64 v4, .int .i64 v5] 34)
        have nc := new_block w5 (.cells #[.int .i64 v0, .int .i64 v1, .int .i64 v2, .int .i64 v3, .int .i64 v4, .int .i64 v5] 34)
        generalize w5.heap.size = q at *
        generalize w5.alloc (.cells #[.int .i64 v0, .int .i64 v1, .int .i64 v2, .int .i64 v3, .int .i64 v4, .int .i64 v5] 34) = X at *
        have B5 := Lib.hid ((B4.out.kept k5).kept kc)
        have C5 := Lib.hid ((C4.out.kept k5).kept kc)
        have K5 := Lib.hid ((K4.out.trans k5).trans kc)
        have NC := Lib.hid nc
        clear B4 C4 K4 k5 kc nc
        have hE : ∀ W, (binOp .eql 34 (.agg #[.int .i64 v0, .int .i64 v1, .int .i64 v2, .int .i64 v3, .int .i64 v4, .int .i64 v5]) (.agg #[.int .i64 y, .int .i64 m, .int .i64 d, .int .i64 h, .int .i64 i, .int .i64 s])).run Tryz.prog W = .ok (.bool (cvE v0 v1 v2 v3 v4 v5 y m d h i s)) W := fun W => eql_civ v0 v1 v2 v3 v4 v5 y m d h i s W
        have d0 := cell_of NC.out (j := 0) rfl
        have d1 := cell_of NC.out (j := 1) rfl
        have d2 := cell_of NC.out (j := 2) rfl
        have d3 := cell_of NC.out (j := 3) rfl
        have d4 := cell_of NC.out (j := 4) rfl
        have d5 := cell_of NC.out (j := 5) rfl
        have e0 := cell_of C5.out (j := 0) rfl
        have e1 := cell_of C5.out (j := 1) rfl
        have e2 := cell_of C5.out (j := 2) rfl
        have e3 := cell_of C5.out (j := 3) rfl
        have e4 := cell_of C5.out (j := 4) rfl
        have e5 := cell_of C5.out (j := 5) rfl
        go_cut [75] from 98 (fun v x => v = .bool (decide (scB u1 = true ∧ u1 + offP z u1 = n)) ∧ X = x)
        case first =>
          rcases HA.out with ⟨hh, hr, hq⟩ | ⟨hh, hr | ⟨hr, hq⟩⟩
          · have HH := Lib.hid hh; clear hh
            rw [hq] at hE
            subst hr
            clear hq
            go_wp2
            go_meet
            exact ⟨by rw [decide_eq_true HH.out], rfl⟩
          · have HH := Lib.hid hh; clear hh
            subst hr
            go_wp2
            go_meet
            exact ⟨by rw [decide_eq_false HH.out], rfl⟩
          · have HH := Lib.hid hh; clear hh
            rw [hq] at hE
            subst hr
            clear hq
            go_wp2
            go_meet
            exact ⟨by rw [decide_eq_false HH.out], rfl⟩
        case rest =>
          obtain ⟨rfl, rfl⟩ := hcut
          clear hE d0 d1 d2 d3 d4 d5 e0 e1 e2 e3 e4 e5 HA NC
          have R1 := Lib.hid (show rp z n u1 = if decide (scB u1 = true ∧ u1 + offP z u1 = n) = true then [u1] else [] by
            unfold rp; by_cases hp : scB u1 = true ∧ u1 + offP z u1 = n
            · rw [if_pos hp, if_pos (by simpa using hp)]
            · rw [if_neg hp, if_neg (by simpa using hp)])
          generalize decide (scB u1 = true ∧ u1 + offP z u1 = n) = t1 at *
          go_upto_if 75 with (fail)
          go_cut [12] from 98 (fun v x => OutIn X.heap.size X (rp z n u1) v x)
          case first =>
            cases t1 with
            | false =>
              go_wp2
              go_meet
              exact ⟨none, 0, by rw [R1.out]; rfl, by rw [R1.out]; exact World.ownsRow_nil _ _ _ _, Kept.refl _⟩
            | true =>
              go_wp2_with (at_builtin; refine wpList_append_own _ rfl _ _ 26 rfl X.heap.size 3 i0 (.int .i64 0) 1 8 Tryz.underlying26 hi hz0 hz1 hz2 rfl (by decide) (.slice none 0 0) 0 [] rfl (World.ownsRow_nil _ _ _ _) ⟨X.heap.size, 0, none⟩ 1 1 [.int .i64 u1] rfl rfl (cell_one_new _ _ _) (fun x hx => by simp at hx; subst hx; rfl) (by unfold maxLen; omega) (by omega) (by simp) ?_; intro v' w7 hown' hgrow hnil)
              go_meet
              rw [R1.out]
              exact outIn_app (l := []) (v := .slice none 0 0) (Nat.le_refl _) (World.ownsRow_nil _ _ _ _) (Kept.refl X) hgrow hown'
          case rest =>
            obtain ⟨ao, cap, rfl, hown, hkx⟩ := hcut
            have OW := Lib.hid hown
            have HX := Lib.hid hkx
            have B6 := Lib.hid (B5.out.kept hkx)
            have C5' := Lib.hid (C5.out.kept hkx)
            clear C5; have C5 := C5'; clear C5'
            clear hown hkx R1
            have c0 := B6.out.cs.c0
            have c1 := B6.out.cs.c1
            have c2 := B6.out.cs.c2
            have c3 := B6.out.cs.c3
            have c4 := B6.out.cs.c4
            have c5 := B6.out.cs.c5
            have c6 := B6.out.cs.c6
            have c7 := B6.out.cs.c7
            have c8 := B6.out.cs.c8
            have c9 := B6.out.cs.c9
            have c10 := B6.out.cs.c10
            have c11 := B6.out.cs.c11
            have c12 := B6.out.cs.c12
            have c13 := B6.out.cs.c13
            have c14 := B6.out.cs.c14
            go_wp2_with fail
            refine (rAt_c z u2 y m d h i s _ l1 l2 HZ.out K.out KT.out).mono ?_
            rintro e w6 ⟨v0, v1, v2, v3, v4, v5, er', rfl, k6, hA⟩
            rw [HN.out] at hA
            clear c0 c1 c2 c3 c4 c5 c6 c7 c8 c9 c10 c11 c12 c13 c14
            have HA := Lib.hid hA; clear hA
            go_upto_region 17 with (fail)
            have kc := (Kept.refl w6).alloc (.cells #[.int .i64 v0, .int .i64 v1, .int .i64 v2, .int .i64 v3, .int .i64 v4, .int .i64 v5] 34)
            have nc := new_block w6 (.cells #[.int .i64 v0, .int .i64 v1, .int .i64 v2, .int .i64 v3, .int .i64 v4, .int .i64 v5] 34)
            generalize w6.heap.size = q2 at *
            generalize w6.alloc (.cells #[.int .i64 v0, .int .i64 v1, .int .i64 v2, .int .i64 v3, .int .i64 v4, .int .i64 v5] 34) = Y at *
            have C6 := Lib.hid ((C5.out.kept k6).kept kc)
            have O6 := Lib.hid (World.ownsRow.kept (World.ownsRow.kept OW.out (k6.grownBy none) (by cases ao <;> simp [Value.ownBlock])) (kc.grownBy none) (by cases ao <;> simp [Value.ownBlock]))
            have X6 := Lib.hid ((HX.out.trans k6).trans kc)
            have NC := Lib.hid nc
            clear k6 kc nc OW HX B5 C5
            have hE : ∀ W, (binOp .eql 34 (.agg #[.int .i64 v0, .int .i64 v1, .int .i64 v2, .int .i64 v3, .int .i64 v4, .int .i64 v5]) (.agg #[.int .i64 y, .int .i64 m, .int .i64 d, .int .i64 h, .int .i64 i, .int .i64 s])).run Tryz.prog W = .ok (.bool (cvE v0 v1 v2 v3 v4 v5 y m d h i s)) W := fun W => eql_civ v0 v1 v2 v3 v4 v5 y m d h i s W
            have d0 := cell_of NC.out (j := 0) rfl
            have d1 := cell_of NC.out (j := 1) rfl
            have d2 := cell_of NC.out (j := 2) rfl
            have d3 := cell_of NC.out (j := 3) rfl
            have d4 := cell_of NC.out (j := 4) rfl
            have d5 := cell_of NC.out (j := 5) rfl
            have e0 := cell_of C6.out (j := 0) rfl
            have e1 := cell_of C6.out (j := 1) rfl
            have e2 := cell_of C6.out (j := 2) rfl
            have e3 := cell_of C6.out (j := 3) rfl
            have e4 := cell_of C6.out (j := 4) rfl
            have e5 := cell_of C6.out (j := 5) rfl
            go_cut [92] from 98 (fun v x => v = .bool (decide (scB u2 = true ∧ u2 + offP z u2 = n)) ∧ Y = x)
            case first =>
              rcases HA.out with ⟨hh, hr, hq⟩ | ⟨hh, hr | ⟨hr, hq⟩⟩
              · have HH := Lib.hid hh; clear hh
                rw [hq] at hE
                subst hr
                clear hq
                go_wp2
                go_meet
                exact ⟨by rw [decide_eq_true HH.out], rfl⟩
              · have HH := Lib.hid hh; clear hh
                subst hr
                go_wp2
                go_meet
                exact ⟨by rw [decide_eq_false HH.out], rfl⟩
              · have HH := Lib.hid hh; clear hh
                rw [hq] at hE
                subst hr
                clear hq
                go_wp2
                go_meet
                exact ⟨by rw [decide_eq_false HH.out], rfl⟩
            case rest =>
              obtain ⟨rfl, rfl⟩ := hcut
              clear hE d0 d1 d2 d3 d4 d5 e0 e1 e2 e3 e4 e5 HA NC
              have R2 := Lib.hid (show rp z n u2 = if decide (scB u2 = true ∧ u2 + offP z u2 = n) = true then [u2] else [] by
                unfold rp; by_cases hp : scB u2 = true ∧ u2 + offP z u2 = n
                · rw [if_pos hp, if_pos (by simpa using hp)]
                · rw [if_neg hp, if_neg (by simpa using hp)])
              generalize decide (scB u2 = true ∧ u2 + offP z u2 = n) = t2 at *
              go_upto_if 92 with (fail)
              go_cut [12] from 98 (fun v x => OutIn X.heap.size X (rp z n u1 ++ rp z n u2) v x)
              case first =>
                cases t2 with
                | false =>
                  go_wp2
                  go_meet
                  rw [R2.out]
                  exact ⟨ao, cap, by simp, by rw [if_neg (by simp), List.append_nil]; exact O6.out, X6.out⟩
                | true =>
                  go_wp2_with (at_builtin; refine wpList_append_own _ rfl _ _ 26 rfl X.heap.size 3 i0 (.int .i64 0) 1 8 Tryz.underlying26 hi hz0 hz1 hz2 rfl (by decide) _ _ _ rfl (O6.out.alloc _) ⟨Y.heap.size, 0, none⟩ 1 1 [.int .i64 u2] rfl rfl (cell_one_new _ _ _) (fun x hx => by simp at hx; subst hx; rfl) (by have := A1.out; unfold maxLen; omega) (by have := A1.out; omega) (by have := X6.out.size; simp; omega) ?_; intro v' w7 hown' hgrow hnil)
                  go_meet
                  rw [R2.out]
                  exact outIn_app (Nat.le_refl _) O6.out X6.out hgrow hown'
              case rest =>
                obtain ⟨ao2, cap2, rfl, hown2, hkx2⟩ := hcut
                have kl5 := K5.out.size
                rw [RO'] at *
                go_wp2
                refine bodyPost_ret (v := .tuple #[.slice ao2 (ofL z n).length cap2, .int .i64 0]) (by simp [results, Tryz.results69, go_sem, *]) rfl ⟨_, rfl, ?_, K5.out.trans hkx2⟩
                refine ⟨hown2.1, hown2.2.imp id ?_⟩
                rintro ⟨g1, p1, p2, h1, h2, h3⟩
                exact ⟨g1, p1, p2, h1, Nat.le_trans kl5 h2, h3⟩
end Go.Proofs.YtilgamjahediiaaGreatDoor
/- Contracts of the document's answer for layer 4: what is no day and time. -/
namespace Go.Proofs.YtilgamjahediiaaGreatDoor
open Go.ChangeShapes Go.WideShapes Go.ChangeAt Go.RowKit
open Civ Zn Lc
set_option maxRecDepth 100000 in
set_option maxHeartbeats 4000000 in
theorem rlof_not (z : Zo) (y m d h i s : Int) (w : World) (l1 : z.std.length ≤ 1000) (l2 : z.dst.length ≤ 1000) (hn : ¬ (mayZ z = true ∧ okP y m d ∧ tmB h i s = true ∧ 1970 ≤ y ∧ y ≤ 9998)) :
    Calls Tryz.prog 69 #[zoV z, civ y m d h i s] w fun e w' => e = .returned (.tuple #[.slice none 0 0, .int .i64 1]) ∧ Kept w w' := by
  have HN := Lib.hid hn; clear hn
  have HM := Lib.hid (show mayB y m d h i s = true ↔ okP y m d ∧ tmB h i s = true by unfold mayB; rw [Bool.and_eq_true, okB_iff]; rfl)
  have B0 := Lib.hid (bz_new w z)
  have K0 := Lib.hid ((Kept.refl w).alloc (.cells (zo15 z.std z.off z.has z.dst z.ahead z.fr.k z.fr.m z.fr.w z.fr.d z.fr.a z.to.k z.to.m z.to.w z.to.d z.to.a) 25))
  go_enter Tryz.func69, Tryz.ntmps69
  go_upto_region 1 with (fail)
  generalize hx : w.alloc (.cells (zo15 z.std z.off z.has z.dst z.ahead z.fr.k z.fr.m z.fr.w z.fr.d z.fr.a z.to.k z.to.m z.to.w z.to.d z.to.a) 25) = x at *
  have s1 : x.heap.size = w.heap.size + 1 := by rw [← hx]; simp
  clear hx
  have b1 : Bc x.heap.size y m d h i s (x.alloc (.cells #[.int .i64 y, .int .i64 m, .int .i64 d, .int .i64 h, .int .i64 i, .int .i64 s] 34)) := new_block x _
  have k1 := (Kept.refl x).alloc (.cells #[.int .i64 y, .int .i64 m, .int .i64 d, .int .i64 h, .int .i64 i, .int .i64 s] 34)
  rw [s1] at b1
  generalize x.alloc (.cells #[.int .i64 y, .int .i64 m, .int .i64 d, .int .i64 h, .int .i64 i, .int .i64 s] 34) = x1 at *
  have B1 := Lib.hid (B0.out.kept k1)
  have C1 := Lib.hid b1
  have K1 := Lib.hid (K0.out.trans k1)
  clear B0 K0 k1 b1 s1
  go_wp2_with (refine wpList_load_row rfl 25 _ rfl w.heap.size rfl 25 _ (0, 0) _ B1.out Tryz.underlying25 rfl (by kernel_rfl) ?_)
  refine (rMay_any z _ (by omega) (by omega)).mono ?_
  rintro e w2 ⟨rfl, k2⟩
  have C2 := Lib.hid (C1.out.kept k2)
  have K2 := Lib.hid (K1.out.trans k2)
  clear B1 C1 K1 k2
  have e0 := cell_of C2.out (j := 0) rfl
  have e1 := cell_of C2.out (j := 1) rfl
  have e2 := cell_of C2.out (j := 2) rfl
  have e3 := cell_of C2.out (j := 3) rfl
  have e4 := cell_of C2.out (j := 4) rfl
  have e5 := cell_of C2.out (j := 5) rfl
  go_wp2_with fail
  refine (rmay_any y m d h i s _).mono ?_
  rintro e w3 ⟨rfl, k3⟩
  have C3 := Lib.hid (C2.out.kept k3)
  have K3 := Lib.hid (K2.out.trans k3)
  clear e0 e1 e2 e3 e4 e5 C2 K2 k3
  cases hz : mayZ z with
  | false =>
    clear hz
    go_wp2
    exact bodyPost_ret (v := .tuple #[.slice none 0 0, .int .i64 1]) (by simp [results, Tryz.results69, go_sem, *]) rfl ⟨rfl, K3.out⟩
  | true =>
    cases hm : mayB y m d h i s with
    | false =>
      clear hz hm
      go_wp2
      exact bodyPost_ret (v := .tuple #[.slice none 0 0, .int .i64 1]) (by simp [results, Tryz.results69, go_sem, *]) rfl ⟨rfl, K3.out⟩
    | true =>
      have HY := Lib.hid (show ¬ (1970 ≤ y ∧ y ≤ 9998) from fun hy => HN.out ⟨hz, (HM.out.1 hm).1, (HM.out.1 hm).2, hy⟩)
      clear hz hm
      have e0 := cell_of C3.out (j := 0) rfl
      by_cases hy : 1970 ≤ y
      · have hy2 : 9998 < y := by have := HY.out; omega
        go_wp2
        exact bodyPost_ret (v := .tuple #[.slice none 0 0, .int .i64 1]) (by simp [results, Tryz.results69, go_sem, *]) rfl ⟨rfl, K3.out⟩
      · go_wp2
        exact bodyPost_ret (v := .tuple #[.slice none 0 0, .int .i64 1]) (by simp [results, Tryz.results69, go_sem, *]) rfl ⟨rfl, K3.out⟩
end Go.Proofs.YtilgamjahediiaaGreatDoor
/- Two slices that hold the same integers. -/
namespace Go.Proofs.YtilgamjahediiaaGreatDoor
open Go.ChangeShapes Go.WideShapes Go.ChangeAt Go.RowKit
open Civ Zn Lc
theorem Out.at {B : Nat} {v : Value} {l : List Int} {x : World} (h : Out B v l x) {k : Nat} (hk : k < l.length) : ∃ g cap, v = .slice (some ⟨g, 0, none⟩) l.length cap ∧ ∀ (j : Nat) (n : Int), l[j]? = some n → x.cell? ⟨g, j, none⟩ = some (.int .i64 n) := by
  rcases h.2 with ⟨_, h2⟩ | ⟨g, cap, cur, h1, h2⟩
  · omega
  · refine ⟨g, cap, h1, fun j n hj => ?_⟩
    have hc := World.ownsRow.cells h (g := g) (by rw [h1]; rfl) j (.int .i64 n) (by simp [hj])
    have ha : ((⟨g, 0, none⟩ : Addr).add j) = ⟨g, j, none⟩ := by simp [Addr.add]; omega
    rw [ha] at hc
    exact hc
theorem Out.kept' {B : Nat} {v : Value} {l : List Int} {x x' : World} (h : Out B v l x) (k : Kept x x') : Out B v l x' :=
  World.ownsRow.kept h (k.grownBy none) (by cases hv : v.ownBlock <;> simp)
end Go.Proofs.YtilgamjahediiaaGreatDoor
/- The chapter's example: what every law asks first. -/
namespace Go.Proofs.YtilgamjahediiaaGreatDoor
open Go.ChangeShapes Go.WideShapes Go.ChangeAt Go.RowKit
open Civ Zn Lc
def zA : Zo := ⟨[67, 69, 84], 3600, true, [67, 69, 83, 84], 7200, ⟨2, 3, 5, 0, 7200⟩, ⟨2, 10, 5, 0, 10800⟩⟩
theorem may_A : mayZ zA = true := by decide
theorem from_A : fromT zA 2023 = 1679792400 ∧ fromT zA 2024 = 1711846800 ∧ fromT zA 2025 = 1743296400 := by decide +kernel
theorem upto_A : uptoT zA 2023 = 1698541200 ∧ uptoT zA 2024 = 1729990800 ∧ uptoT zA 2025 = 1761440400 := by decide +kernel
theorem sec_A : sec 2024 10 27 2 30 0 = 1729996200 ∧ sec 2024 3 31 2 30 0 = 1711852200 := by decide +kernel
theorem yr_A : yr 20023 = 2024 ∧ yr 19813 = 2024 :=
  ⟨(ymd_of (n := 20023) (y := 2024) (m := 10) (d := 27) (by unfold okP; decide +kernel) (by decide +kernel)).1, (ymd_of (n := 19813) (y := 2024) (m := 3) (d := 31) (by unfold okP; decide +kernel) (by decide +kernel)).1⟩
theorem offP_A {t : Int} (h : yr (t / 86400) = 2024) : offP zA t = if (if 1761440400 ≤ t then 1761440400 else if 1729990800 ≤ t then 1729990800 else if 1698541200 ≤ t then 1698541200 else uptoT zA 2022) < (if 1743296400 ≤ t then 1743296400 else if 1711846800 ≤ t then 1711846800 else if 1679792400 ≤ t then 1679792400 else fromT zA 2022) then 7200 else 3600 := by
  unfold offP offY lst
  rw [h]
  simp only [show (2024 : Int) + 1 = 2025 by decide, show (2024 : Int) - 1 = 2023 by decide, show (2024 : Int) - 2 = 2022 by decide, from_A.1, from_A.2.1, from_A.2.2, upto_A.1, upto_A.2.1, upto_A.2.2, show zA.has = true from rfl, if_true]
  rfl
theorem of_A : ofL zA 1729996200 = [1729989000, 1729992600] ∧ ofL zA 1711852200 = [] := by
  have o : offsL zA = [7200, 3600] := by decide
  have a1 : offP zA 1729989000 = 7200 := by rw [offP_A (by rw [show (1729989000 : Int) / 86400 = 20023 by decide]; exact yr_A.1)]; decide +kernel
  have a2 : offP zA 1729992600 = 3600 := by rw [offP_A (by rw [show (1729992600 : Int) / 86400 = 20023 by decide]; exact yr_A.1)]; decide +kernel
  have a3 : offP zA 1711845000 = 3600 := by rw [offP_A (by rw [show (1711845000 : Int) / 86400 = 19813 by decide]; exact yr_A.2)]; decide +kernel
  have a4 : offP zA 1711848600 = 7200 := by rw [offP_A (by rw [show (1711848600 : Int) / 86400 = 19813 by decide]; exact yr_A.2)]; decide +kernel
  unfold ofL
  rw [o]
  simp only [List.flatMap_cons, List.flatMap_nil, pick]
  simp [a1, a2, a3, a4, scB]
theorem Out.slice {B : Nat} {v : Value} {l : List Int} {x : World} (h : Out B v l x) : ∃ ao cap, v = .slice ao l.length cap := by
  rcases h.2 with ⟨h1, h2⟩ | ⟨g, cap, _, h1, _⟩
  · exact ⟨none, 0, by rw [h1, h2]⟩
  · exact ⟨_, _, h1⟩
theorem someA (w : World) : Calls Tryz.prog 23 #[] w fun e w' => e = .returned (zoV zA) ∧ Kept w w' := some_any w
theorem turns_A (w : World) : Calls Tryz.prog 22 #[zoV zA, .int .i64 2024] w fun e w' => e = .returned (.tuple #[.int .i64 1711846800, .int .i64 1729990800, .int .i64 0]) ∧ Kept w w' := by
  have h := turns_yes zA 2024 w (by decide) may_A rfl
  rw [from_A.2.1, upto_A.2.1] at h
  exact h
theorem ofA_1 (w : World) : Calls Tryz.prog 18 #[zoV zA, civ 2024 10 27 2 30 0] w (OfPost [1729989000, 1729992600] w) := by
  have h := lof_yes zA 2024 10 27 2 30 0 w may_A (by unfold okP; decide +kernel) (by decide) (by omega) (by omega)
  rw [sec_A.1, of_A.1] at h
  exact h
theorem ofA_2 (w : World) : Calls Tryz.prog 18 #[zoV zA, civ 2024 3 31 2 30 0] w (OfPost [] w) := by
  have h := lof_yes zA 2024 3 31 2 30 0 w may_A (by unfold okP; decide +kernel) (by decide) (by omega) (by omega)
  rw [sec_A.2, of_A.2] at h
  exact h
end Go.Proofs.YtilgamjahediiaaGreatDoor
/- The contracts of package local and of the document's answer, side by side: one word for both. -/
namespace Go.Proofs.YtilgamjahediiaaGreatDoor
open Go.ChangeShapes Go.WideShapes Go.ChangeAt Go.RowKit
open Civ Zn Lc
def shB (z : Zo) : Bool := decide (z.std.length ≤ 100) && decide (z.dst.length ≤ 100)
set_option maxRecDepth 100000 in
set_option maxHeartbeats 1000000 in
theorem short_any (z : Zo) (w : World) (h1 : z.std.length ≤ maxLen) (h2 : z.dst.length ≤ maxLen) : Calls Tryz.prog 25 #[zoV z] w fun e w' => e = .returned (.bool (shB z)) ∧ Kept w w' := by
  unfold maxLen at h1 h2
  have B0 := Lib.hid (bz_new w z)
  have K0 := Lib.hid ((Kept.refl w).alloc (.cells (zo15 z.std z.off z.has z.dst z.ahead z.fr.k z.fr.m z.fr.w z.fr.d z.fr.a z.to.k z.to.m z.to.w z.to.d z.to.a) 25))
  go_enter Tryz.func25, Tryz.ntmps25
  go_upto_region 1 with (fail)
  generalize w.alloc (.cells (zo15 z.std z.off z.has z.dst z.ahead z.fr.k z.fr.m z.fr.w z.fr.d z.fr.a z.to.k z.to.m z.to.w z.to.d z.to.a) 25) = x at *
  have c0 := B0.out.cs.c0
  have c3 := B0.out.cs.c3
  by_cases g1 : z.std.length ≤ 100
  · by_cases g2 : z.dst.length ≤ 100
    · have HS := Lib.hid (show shB z = true by simp [shB, g1, g2])
      go_wp2
      go_ret
      exact ⟨ret_bool (show decide ((z.dst.length : Int) ≤ 100) = shB z by rw [HS.out]; simp; omega), K0.out⟩
    · have HS := Lib.hid (show shB z = false by simp [shB]; omega)
      go_wp2
      go_ret
      exact ⟨ret_bool (show decide ((z.dst.length : Int) ≤ 100) = shB z by rw [HS.out]; simp; omega), K0.out⟩
  · have HS := Lib.hid (show shB z = false by simp [shB]; omega)
    go_wp2
    go_ret
    exact ⟨by rw [HS.out]; rfl, K0.out⟩
def dA (r : Ru) (y : Int) : Int := if (yrB y && mayR r) = true then dayN r y else 0
def dE (r : Ru) (y : Int) : Int := if (yrB y && mayR r) = true then 0 else 1
theorem rDay_any (r : Ru) (y : Int) (w : World) : Calls Tryz.prog 88 #[ruV r, .int .i64 y] w fun e w' => e = .returned (.tuple #[.int .i64 (dA r y), .int .i64 (dE r y)]) ∧ Kept w w' := by
  unfold dA dE
  by_cases h : (yrB y && mayR r) = true
  · rw [if_pos h, if_pos h]; rw [Bool.and_eq_true] at h; exact rDay_yes r y w h.1 h.2
  · rw [if_neg h, if_neg h]; exact rDay_not r y w (Bool.eq_false_iff.2 h)
def tOk (z : Zo) (y : Int) : Bool := mayZ z && z.has && yrB y
def tF (z : Zo) (y : Int) : Int := if tOk z y = true then fromT z y else 0
def tU (z : Zo) (y : Int) : Int := if tOk z y = true then uptoT z y else 0
def tE (z : Zo) (y : Int) : Int := if tOk z y = true then 0 else 1
theorem turns_any (z : Zo) (y : Int) (w : World) : Calls Tryz.prog 22 #[zoV z, .int .i64 y] w fun e w' => e = .returned (.tuple #[.int .i64 (tF z y), .int .i64 (tU z y), .int .i64 (tE z y)]) ∧ Kept w w' := by
  unfold tF tU tE
  by_cases h : tOk z y = true
  · rw [if_pos h, if_pos h, if_pos h]; unfold tOk at h; simp only [Bool.and_eq_true] at h; exact turns_yes z y w h.2 h.1.1 h.1.2
  · rw [if_neg h, if_neg h, if_neg h]; exact turns_not z y w (Bool.eq_false_iff.2 h)
theorem rTurns_any (z : Zo) (y : Int) (w : World) (l1 : z.std.length ≤ 1000) (l2 : z.dst.length ≤ 1000) : Calls Tryz.prog 61 #[zoV z, .int .i64 y] w fun e w' => e = .returned (.tuple #[.int .i64 (tF z y), .int .i64 (tU z y), .int .i64 (tE z y)]) ∧ Kept w w' := by
  unfold tF tU tE
  by_cases h : tOk z y = true
  · rw [if_pos h, if_pos h, if_pos h]; unfold tOk at h; simp only [Bool.and_eq_true] at h; exact rTurns_yes z y w l1 l2 h.2 h.1.1 h.1.2
  · rw [if_neg h, if_neg h, if_neg h]; exact rTurns_not z y w l1 l2 (Bool.eq_false_iff.2 h)
def oOk (z : Zo) (t : Int) : Bool := mayZ z && scB t
noncomputable def oA (z : Zo) (t : Int) : Int := if oOk z t = true then offP z t else 0
def oE (z : Zo) (t : Int) : Int := if oOk z t = true then 0 else 1
theorem off_any' (z : Zo) (t : Int) (w : World) : Calls Tryz.prog 27 #[zoV z, .int .i64 t] w fun e w' => e = .returned (.tuple #[.int .i64 (oA z t), .int .i64 (oE z t)]) ∧ Kept w w' := by
  unfold oA oE
  by_cases h : oOk z t = true
  · rw [if_pos h, if_pos h]; unfold oOk at h; rw [Bool.and_eq_true] at h; exact off_yes z t w h.1 h.2
  · rw [if_neg h, if_neg h]; exact off_not z t w (Bool.eq_false_iff.2 h)
theorem rOff_any (z : Zo) (t : Int) (w : World) (l1 : z.std.length ≤ 1000) (l2 : z.dst.length ≤ 1000) : Calls Tryz.prog 30 #[zoV z, .int .i64 t] w fun e w' => e = .returned (.tuple #[.int .i64 (oA z t), .int .i64 (oE z t)]) ∧ Kept w w' := by
  unfold oA oE
  by_cases h : oOk z t = true
  · rw [if_pos h, if_pos h]; unfold oOk at h; rw [Bool.and_eq_true] at h; exact rOff_yes z t w l1 l2 h.1 h.2
  · rw [if_neg h, if_neg h]; exact rOff_not z t w l1 l2 (Bool.eq_false_iff.2 h)
/-- the day and time there, or none -/
structure Six where
  y : Int
  m : Int
  d : Int
  h : Int
  i : Int
  s : Int
def AtOk (z : Zo) (t : Int) : Prop := oOk z t = true ∧ inCal (t + offP z t)
open Classical in
noncomputable def atS (z : Zo) (t : Int) : Six := if AtOk z t then ⟨yr ((t + offP z t) / 86400), mo ((t + offP z t) / 86400), dy ((t + offP z t) / 86400), (t + offP z t) % 86400 / 3600, (t + offP z t) % 3600 / 60, (t + offP z t) % 60⟩ else ⟨0, 0, 0, 0, 0, 0⟩
open Classical in
noncomputable def atE (z : Zo) (t : Int) : Int := if AtOk z t then 0 else 1
abbrev sixV (c : Six) : Value := civ c.y c.m c.d c.h c.i c.s
def AtAny (z : Zo) (t : Int) (w : World) (e : Ending) (w' : World) : Prop := e = .returned (.tuple #[sixV (atS z t), .int .i64 (atE z t)]) ∧ Kept w w' ∧ (AtOk z t → Day ((t + offP z t) / 86400))
theorem at_any' (z : Zo) (t : Int) (w : World) : Calls Tryz.prog 70 #[zoV z, .int .i64 t] w (AtAny z t w) := by
  unfold AtAny atS atE
  by_cases h : AtOk z t
  · rw [if_pos h, if_pos h]
    have ho := h.1; unfold oOk at ho; rw [Bool.and_eq_true] at ho
    exact (lat_yes z t w ho.1 ho.2 h.2).mono fun e w' ⟨hD, he, hk⟩ => ⟨he, hk, fun _ => hD⟩
  · rw [if_neg h, if_neg h]
    by_cases ho : oOk z t = true
    · have hc : ¬ inCal (t + offP z t) := fun q => h ⟨ho, q⟩
      unfold oOk at ho; rw [Bool.and_eq_true] at ho
      exact (lat_out z t w ho.1 ho.2 hc).mono fun e w' ⟨he, hk⟩ => ⟨he, hk, fun q => absurd q h⟩
    · exact (lat_not z t w (Bool.eq_false_iff.2 ho)).mono fun e w' ⟨he, hk⟩ => ⟨he, hk, fun q => absurd q h⟩
theorem rAt_any (z : Zo) (t : Int) (w : World) (l1 : z.std.length ≤ 1000) (l2 : z.dst.length ≤ 1000) : Calls Tryz.prog 33 #[zoV z, .int .i64 t] w (AtAny z t w) := by
  unfold AtAny atS atE
  by_cases h : AtOk z t
  · rw [if_pos h, if_pos h]
    have ho := h.1; unfold oOk at ho; rw [Bool.and_eq_true] at ho
    exact (rAt_yes z t w l1 l2 ho.1 ho.2 h.2).mono fun e w' ⟨hD, he, hk⟩ => ⟨he, hk, fun _ => hD⟩
  · rw [if_neg h, if_neg h]
    by_cases ho : oOk z t = true
    · have hc : ¬ inCal (t + offP z t) := fun q => h ⟨ho, q⟩
      unfold oOk at ho; rw [Bool.and_eq_true] at ho
      exact (rAt_out z t w l1 l2 ho.1 ho.2 hc).mono fun e w' ⟨he, hk⟩ => ⟨he, hk, fun q => absurd q h⟩
    · exact (rAt_not z t w l1 l2 (Bool.eq_false_iff.2 ho)).mono fun e w' ⟨he, hk⟩ => ⟨he, hk, fun q => absurd q h⟩
def CivOk (z : Zo) (c : Six) : Prop := mayZ z = true ∧ okP c.y c.m c.d ∧ tmB c.h c.i c.s = true ∧ 1970 ≤ c.y ∧ c.y ≤ 9998
abbrev sixN (c : Six) : Int := sec c.y c.m c.d c.h c.i c.s
open Classical in
noncomputable def ofS (z : Zo) (c : Six) : List Int := if CivOk z c then ofL z (sixN c) else []
open Classical in
noncomputable def ofE (z : Zo) (c : Six) : Int := if CivOk z c then 0 else 1
def OfAny (z : Zo) (c : Six) (w : World) (e : Ending) (w' : World) : Prop := ∃ ao cap, e = .returned (.tuple #[.slice ao (ofS z c).length cap, .int .i64 (ofE z c)]) ∧ Out w.heap.size (.slice ao (ofS z c).length cap) (ofS z c) w' ∧ Kept w w'
theorem of_any (z : Zo) (c : Six) (w : World) : Calls Tryz.prog 18 #[zoV z, sixV c] w (OfAny z c w) := by
  unfold OfAny ofS ofE
  by_cases h : CivOk z c
  · rw [if_pos h, if_pos h]
    refine (lof_yes z c.y c.m c.d c.h c.i c.s w h.1 h.2.1 h.2.2.1 h.2.2.2.1 h.2.2.2.2).mono ?_
    rintro e w' ⟨v, he, ho, hk⟩
    obtain ⟨ao, cap, rfl⟩ := ho.slice
    exact ⟨ao, cap, he, ho, hk⟩
  · rw [if_neg h, if_neg h]
    refine (lof_not z c.y c.m c.d c.h c.i c.s w h).mono ?_
    rintro e w' ⟨he, hk⟩
    exact ⟨none, 0, he, World.ownsRow_nil _ _ _ _, hk⟩
theorem rOf_any (z : Zo) (c : Six) (w : World) (l1 : z.std.length ≤ 1000) (l2 : z.dst.length ≤ 1000) : Calls Tryz.prog 69 #[zoV z, sixV c] w (OfAny z c w) := by
  unfold OfAny ofS ofE
  by_cases h : CivOk z c
  · rw [if_pos h, if_pos h]
    refine (rlof_yes z c.y c.m c.d c.h c.i c.s w l1 l2 h.1 h.2.1 h.2.2.1 h.2.2.2.1 h.2.2.2.2).mono ?_
    rintro e w' ⟨v, he, ho, hk⟩
    obtain ⟨ao, cap, rfl⟩ := ho.slice
    exact ⟨ao, cap, he, ho, hk⟩
  · rw [if_neg h, if_neg h]
    refine (rlof_not z c.y c.m c.d c.h c.i c.s w l1 l2 h).mono ?_
    rintro e w' ⟨he, hk⟩
    exact ⟨none, 0, he, World.ownsRow_nil _ _ _ _, hk⟩
end Go.Proofs.YtilgamjahediiaaGreatDoor
/- What LocalBack leans on: a second is among those of its day and time there; each of these tells it. -/
namespace Go.Proofs.YtilgamjahediiaaGreatDoor
open Go.ChangeShapes Go.WideShapes Go.ChangeAt Go.RowKit
open Civ Zn Lc
theorem offP_in (z : Zo) (t : Int) : offP z t ∈ offsL z := by
  unfold offP offY offsL
  by_cases h : z.has = true
  · rw [if_pos h]
    by_cases q : z.ahead = z.off
    · rw [if_neg (by simp [q])]
      split <;> simp [q]
    · rw [if_pos ⟨h, q⟩]
      simp only [List.mem_cons, List.not_mem_nil, or_false]
      split <;> omega
  · rw [if_neg h, if_neg (by simp [h])]
    simp
theorem mem_ofL {z : Zo} {t : Int} (h : scB t = true) : t ∈ ofL z (t + offP z t) := by
  unfold ofL
  rw [List.mem_flatMap]
  refine ⟨offP z t, offP_in z t, ?_⟩
  unfold pick
  rw [show t + offP z t - offP z t = t by omega, if_pos ⟨h, rfl⟩]
  simp
theorem ofL_mem {z : Zo} {n t : Int} (h : t ∈ ofL z n) : scB t = true ∧ t + offP z t = n := by
  unfold ofL at h
  rw [List.mem_flatMap] at h
  obtain ⟨o, _, ho⟩ := h
  unfold pick at ho
  split at ho
  · rename_i q
    simp only [List.mem_cons, List.not_mem_nil, or_false] at ho
    subst ho
    exact ⟨q.1, by omega⟩
  · cases ho
theorem ofL_len (z : Zo) (n : Int) : (ofL z n).length ≤ 2 := by
  have := part_len z n (offsL z).length (Nat.le_refl _)
  rw [part_all] at this
  have := offs_len z
  omega
theorem ofL_rise {z : Zo} {n a b : Int} (h0 : (ofL z n)[0]? = some a) (h1 : (ofL z n)[1]? = some b) : a < b := by
  have hl := ofL_len z n
  unfold ofL offsL at h0 h1
  split at h0
  · rename_i q
    rw [if_pos q] at h1
    simp only [List.flatMap_cons, List.flatMap_nil, List.append_nil] at h0 h1
    unfold pick at h0 h1
    by_cases p1 : scB (n - max z.off z.ahead) = true ∧ offP z (n - max z.off z.ahead) = max z.off z.ahead
    · by_cases p2 : scB (n - min z.off z.ahead) = true ∧ offP z (n - min z.off z.ahead) = min z.off z.ahead
      · simp only [if_pos p1, if_pos p2] at h0 h1
        simp at h0 h1
        have := q.2
        omega
      · simp only [if_pos p1, if_neg p2] at h0 h1
        simp at h1
    · by_cases p2 : scB (n - min z.off z.ahead) = true ∧ offP z (n - min z.off z.ahead) = min z.off z.ahead
      · simp only [if_neg p1, if_pos p2] at h0 h1
        simp at h1
      · simp only [if_neg p1, if_neg p2] at h0 h1
        simp at h1
  · rename_i q
    rw [if_neg q] at h1
    simp only [List.flatMap_cons, List.flatMap_nil, List.append_nil] at h0 h1
    have := pick_len z n z.off
    rw [List.getElem?_eq_none (by omega)] at h1
    cases h1
theorem tm_at (t : Int) : tmB (t % 86400 / 3600) (t % 3600 / 60) (t % 60) = true := by
  unfold tmB; simp; omega
/-- what a second's day and time there is, where it may be asked for -/
theorem at_back {z : Zo} {t : Int} (h : AtOk z t) (hD : Day ((t + offP z t) / 86400)) (y1 : 1970 ≤ (atS z t).y) (y2 : (atS z t).y ≤ 9998) : ofE z (atS z t) = 0 ∧ t ∈ ofS z (atS z t) := by
  have ho := h.1; unfold oOk at ho; rw [Bool.and_eq_true] at ho
  have e : atS z t = ⟨yr ((t + offP z t) / 86400), mo ((t + offP z t) / 86400), dy ((t + offP z t) / 86400), (t + offP z t) % 86400 / 3600, (t + offP z t) % 3600 / 60, (t + offP z t) % 60⟩ := by unfold atS; rw [if_pos h]
  have ok : CivOk z (atS z t) := ⟨ho.1, by rw [e]; exact hD.1, by rw [e]; exact tm_at _, y1, y2⟩
  have hn : sixN (atS z t) = t + offP z t := by rw [e]; exact sec_at _ hD
  unfold ofE ofS
  rw [if_pos ok, if_pos ok, hn]
  exact ⟨rfl, mem_ofL ho.2⟩
/-- each second of a day and time tells it -/
theorem of_back {z : Zo} {c : Six} {t : Int} (hc : CivOk z c) (h : t ∈ ofS z c) : AtOk z t ∧ atS z t = c := by
  unfold ofS at h
  rw [if_pos hc] at h
  obtain ⟨h1, h2⟩ := ofL_mem h
  obtain ⟨e, k⟩ := cv_sec hc.2.1 hc.2.2.1
  have ok : AtOk z t := ⟨by unfold oOk; rw [hc.1, h1]; rfl, by rw [h2]; exact k⟩
  refine ⟨ok, ?_⟩
  unfold atS
  rw [if_pos ok, h2]
  obtain ⟨e1, e2, e3, e4, e5, e6⟩ := e
  show Six.mk _ _ _ _ _ _ = c
  have q : sixN c = sec c.y c.m c.d c.h c.i c.s := rfl
  rw [q, e1, e2, e3, e4, e5, e6]
end Go.Proofs.YtilgamjahediiaaGreatDoor
