/- Several texts of this seat, one behind the other. -/
import Derived.Test.YtilgamjahediiaaGreatDoorCrParse
import Derived.Deep.RegionHeld3
/- Contracts of package cron: whether a schedule may be. -/
set_option linter.unusedVariables false
namespace Go.Proofs.YtilgamjahediiaaGreatDoor
open Go.ChangeShapes Go.WideShapes Go.ChangeAt Go.RowKit
open Crn
theorem rises_step {l : List Int} {k : Nat} {n least top : Int} (h : l[k]? = some n) : rises least top (l.drop k) = (decide (least ≤ n ∧ n ≤ top) && rises (n + 1) top (l.drop (k + 1))) := by
  have : l.drop k = n :: l.drop (k + 1) := by
    obtain ⟨hk, rfl⟩ := List.getElem?_eq_some_iff.1 h
    exact List.drop_eq_getElem_cons hk
  rw [this, rises]
set_option maxRecDepth 100000 in
set_option maxHeartbeats 2000000 in
theorem fmay_any (f : Nat) (v : Value) (l : List Int) (s : Bool) (w : World) (hv : Rs w v l) : Calls Tryz.prog 45 #[fld f, v, .bool s] w fun e w' => e = .returned (.bool (mayF f l s)) ∧ Kept w w' := by
  have hlen := hv.len
  unfold maxLen at hlen
  have hlo := lo_bd f; have hhi := hi_bd f
  have k0 := (Kept.refl w).alloc (fldO f)
  have F0 := Fl.new f w
  have hv0 := hv.kept k0
  obtain ⟨e0, e1, e2, e3⟩ := (⟨F0.c0, F0.c1, F0.c2, F0.c3⟩ : _ ∧ _ ∧ _ ∧ _)
  obtain ⟨ad, c, rfl⟩ := hv.slice
  clear hv
  go_enter Tryz.func45, Tryz.ntmps45
  go_upto_region 1 with (fail)
  generalize w.alloc (fldO f) = x at *
  have HV := Lib.hid hv0; clear hv0 F0
  by_cases hz : l.length = 0
  · obtain rfl : l = [] := List.length_eq_zero_iff.1 hz
    have hm : mayF f [] s = false := rfl
    go_wp2
    go_ret
    exact ⟨ret_bool hm.symm, k0⟩
  · have hne : l.isEmpty = false := by cases l with | nil => exact absurd rfl hz | cons a r => rfl
    have hM := Lib.hid (show mayF f l s = (rises (lo f) (Crn.hi f) l && (!s || decide ((l.length : Int) = Crn.hi f - lo f + 1))) by unfold mayF; rw [hne]; simp)
    have hzI : ¬ (l.length : Int) = 0 := by omega
    clear hz hne
    go_wp2_with fail
    go_loopw [7, 17] (fun a i y => y = x ∧ ∃ (k : Nat) (m : Int), k ≤ l.length ∧ i = .int .i64 k ∧ a = .int .i64 m ∧ lo f ≤ m ∧ m ≤ Crn.hi f + 1 ∧ rises (lo f) (Crn.hi f) l = rises m (Crn.hi f) (l.drop k)) (fun _ i _ => l.length - (intOf i).toNat)
    case atStart => exact ⟨rfl, 0, lo f, Nat.zero_le _, rfl, rfl, Int.le_refl _, by omega, by simp⟩
    case round =>
      obtain ⟨rfl, k, m, hk, rfl, rfl, m1, m2, hr⟩ := hrel
      by_cases hlt : k < l.length
      · obtain ⟨b, o, c2, hs, hb, hcell⟩ := HV.out.at hlt
        simp only [Value.slice.injEq] at hs
        obtain ⟨rfl, _, rfl⟩ := hs
        obtain ⟨n, hn⟩ : ∃ n, l[k]? = some n := ⟨_, List.getElem?_eq_getElem hlt⟩
        have ck := hcell k n hn
        have HS := Lib.hid (hr.trans (rises_step hn))
        clear hcell hn hr
        by_cases g1 : n < m
        · have HE := Lib.hid (show mayF f l s = false by rw [hM.out, HS.out, decide_eq_false (by omega)]; rfl)
          go_wp2
          go_ret
          exact ⟨ret_bool HE.out.symm, k0⟩
        · by_cases g2 : Crn.hi f < n
          · have HE := Lib.hid (show mayF f l s = false by rw [hM.out, HS.out, decide_eq_false (by omega)]; rfl)
            go_wp2
            go_ret
            exact ⟨ret_bool HE.out.symm, k0⟩
          · have HE := Lib.hid (show rises (lo f) (Crn.hi f) l = rises (n + 1) (Crn.hi f) (l.drop (k + 1)) by rw [HS.out, decide_eq_true (by omega)]; rfl)
            go_wp2
            go_roundw
            case rel => exact ⟨trivial, k + 1, n + 1, hlt, by go_num, by go_num, by omega, by omega, HE.out⟩
            case measure => simp [intOf]; omega
      · have HE := Lib.hid (show mayF f l s = (!s || decide ((l.length : Int) = Crn.hi f - lo f + 1)) by rw [hM.out, hr, List.drop_eq_nil_of_le (by omega)]; simp [rises])
        cases s with
        | false =>
          go_wp2
          go_ret
          exact ⟨ret_bool (by rw [HE.out]; rfl), k0⟩
        | true =>
          go_wp2
          go_ret
          exact ⟨ret_bool (by rw [HE.out]; by_cases h : (l.length : Int) = Crn.hi f - lo f + 1 <;> simp [h]), k0⟩
/-- a schedule in a block of its own -/
def Cb (b : Nat) (sl : Nat → Value) (st : Nat → Bool) (x : World) : Prop := x.heap[b]? = some (.cells (cr10 sl st) 30)
theorem Cb.lt {b : Nat} {sl : Nat → Value} {st : Nat → Bool} {x : World} (h : Cb b sl st x) : b < x.heap.size := (Array.getElem?_eq_some_iff.1 h).1
theorem Cb.kept {b : Nat} {sl : Nat → Value} {st : Nat → Bool} {x x' : World} (h : Cb b sl st x) (k : Kept x x') : Cb b sl st x' := (k.block b h.lt).trans h
theorem Cb.new (sl : Nat → Value) (st : Nat → Bool) (w : World) : Cb w.heap.size sl st (w.alloc (.cells (cr10 sl st) 30)) := new_block w _
/-- the five lists that a value reads as -/
def Cr (x : World) (sl : Nat → Value) (L : Nat → List Int) : Prop := ∀ i, i < 5 → Rs x (sl i) (L i)
theorem Cr.kept {x x' : World} {sl : Nat → Value} {L : Nat → List Int} (h : Cr x sl L) (k : Kept x x') : Cr x' sl L := fun i hi => (h i hi).kept k
def hasB (l : List Int) (n : Int) : Bool := l.contains n
theorem contains_any (v : Value) (l : List Int) (n : Int) (w : World) (hv : Rs w v l) : Calls Tryz.prog 78 #[v, .int .i64 n] w fun e w' => e = .returned (.bool (hasB l n)) ∧ w = w' := by
  have hl := hv.len
  unfold maxLen at hl
  rcases hv with ⟨rfl, ad, c, rfl⟩ | ⟨hne, b, o, c, rfl, hb, _, hc⟩
  · refine (Tryz.slices_Contains_int_empty ad c n w).mono ?_
    rintro e w' ⟨rfl, rfl⟩
    exact ⟨rfl, rfl⟩
  · refine (Tryz.slices_Contains_int b o l.length c l n w (Nat.le_refl _) (by omega) (fun j hj => ?_)).mono ?_
    · exact hc j _ (by simp [List.getD, List.getElem?_eq_getElem hj])
    · rintro e w' ⟨rfl, rfl⟩
      exact ⟨by rw [List.take_length]; rfl, rfl⟩
set_option maxRecDepth 100000 in
theorem chas_any (sl : Nat → Value) (st : Nat → Bool) (L : Nat → List Int) (i : Nat) (hi : i < 5) (n : Int) (w : World) (hc : Cr w sl L) : Calls Tryz.prog 47 #[crV sl st, .int .i64 i, .int .i64 n] w fun e w' => e = .returned (.bool (hasB (L i) n)) ∧ Kept w w' := by
  have k0 := (Kept.refl w).alloc (.cells (cr10 sl st) 30)
  have B0 := Cb.new sl st w
  have hv := (hc.kept k0) i hi
  rcases (show i = 0 ∨ i = 1 ∨ i = 2 ∨ i = 3 ∨ i = 4 by omega) with rfl | rfl | rfl | rfl | rfl
  all_goals
    go_enter Tryz.func47, Tryz.ntmps47
    go_upto_region 1 with (fail)
    generalize w.alloc (.cells (cr10 sl st) 30) = x at *
    have e0 := cell_of (j := 0) B0 rfl
    have e1 := cell_of (j := 1) B0 rfl
    have e2 := cell_of (j := 2) B0 rfl
    have e3 := cell_of (j := 3) B0 rfl
    have e4 := cell_of (j := 4) B0 rfl
    go_wp2_with fail
    refine (contains_any _ _ _ _ hv).mono ?_
    rintro e w' ⟨rfl, rfl⟩
    go_wp2
    go_ret
    exact ⟨rfl, k0⟩
theorem mayC_no {c : CR} {k : Nat} (hk : k < 5) (h : mayF k (c.L k) (c.st k) = false) : mayC c = false := by
  unfold mayC
  rcases (show k = 0 ∨ k = 1 ∨ k = 2 ∨ k = 3 ∨ k = 4 by omega) with rfl | rfl | rfl | rfl | rfl <;> simp [h]
theorem mayC_yes {c : CR} (h : ∀ k, k < 5 → mayF k (c.L k) (c.st k) = true) : mayC c = true := by
  unfold mayC
  rw [h 0 (by omega), h 1 (by omega), h 2 (by omega), h 3 (by omega), h 4 (by omega)]; rfl
theorem cr_L (sl : Nat → Value) (st : Nat → Bool) (k : Nat) (hk : k < 5) : (cr10 sl st)[k]? = some (sl k) ∧ (cr10 sl st)[5 + k]? = some (.bool (st k)) := by
  rcases (show k = 0 ∨ k = 1 ∨ k = 2 ∨ k = 3 ∨ k = 4 by omega) with rfl | rfl | rfl | rfl | rfl <;> exact ⟨rfl, rfl⟩
theorem mb_held {X x x' : World} {f b d k : Nat} {v : Value} {s : Bool} (kk : Kept x x') (H : Kept X x ∧ x.cell? ⟨b, 0, none⟩ = some (.int .i64 (lo f)) ∧ x.cell? ⟨b, 1, none⟩ = some (.int .i64 (Crn.hi f)) ∧ x.cell? ⟨b, 2, none⟩ = some (.int .i64 (wr f)) ∧ x.cell? ⟨b, 3, none⟩ = some (.string ⟨(nms f).toArray⟩) ∧ x.cell? ⟨d, k, none⟩ = some v ∧ x.cell? ⟨d, 5 + k, none⟩ = some (.bool s)) :
    Kept X x' ∧ x'.cell? ⟨b, 0, none⟩ = some (.int .i64 (lo f)) ∧ x'.cell? ⟨b, 1, none⟩ = some (.int .i64 (Crn.hi f)) ∧ x'.cell? ⟨b, 2, none⟩ = some (.int .i64 (wr f)) ∧ x'.cell? ⟨b, 3, none⟩ = some (.string ⟨(nms f).toArray⟩) ∧ x'.cell? ⟨d, k, none⟩ = some v ∧ x'.cell? ⟨d, 5 + k, none⟩ = some (.bool s) := by
  obtain ⟨h0, h1, h2, h3, h4, h5, h6⟩ := H
  exact ⟨h0.trans kk, (kk.cell (a := ⟨b, 0, none⟩) (lt_cell h1)).trans h1, (kk.cell (a := ⟨b, 1, none⟩) (lt_cell h2)).trans h2, (kk.cell (a := ⟨b, 2, none⟩) (lt_cell h3)).trans h3, (kk.cell (a := ⟨b, 3, none⟩) (lt_cell h4)).trans h4, (kk.cell (a := ⟨d, k, none⟩) (lt_cell h5)).trans h5, (kk.cell (a := ⟨d, 5 + k, none⟩) (lt_cell h6)).trans h6⟩
set_option maxRecDepth 100000 in
set_option maxHeartbeats 2000000 in
theorem cmay_any (c : CR) (sl : Nat → Value) (w : World) (hc : Cr w sl c.L) : Calls Tryz.prog 19 #[crV sl c.st] w fun e w' => e = .returned (.bool (mayC c)) ∧ Kept w w' := by
  have k0 := (Kept.refl w).alloc (.cells (cr10 sl c.st) 30)
  have B0 := Lib.hid (Cb.new sl c.st w)
  have C0 := Lib.hid (hc.kept k0)
  clear hc
  go_enter Tryz.func19, Tryz.ntmps19
  go_upto_region 1 with (fail)
  generalize w.alloc (.cells (cr10 sl c.st) 30) = x at *
  go_wp2_with fail
  refine (fields_any _).mono ?_
  rintro e W ⟨rfl, k1⟩
  have B1 := Lib.hid (B0.out.kept k1); have C1 := Lib.hid (C0.out.kept k1); have K1 := Lib.hid (k0.trans k1)
  clear k0 k1 B0 C0
  go_wp2_with fail
  go_loopw [6] (fun i y => ∃ k : Nat, k ≤ 5 ∧ i = .int .i64 k ∧ Kept W y ∧ ∀ j, j < k → mayF j (c.L j) (c.st j) = true) (fun i _ => 5 - (intOf i).toNat)
  case atStart => exact ⟨0, by omega, rfl, Kept.refl _, fun j hj => by omega⟩
  case round =>
    obtain ⟨k, hk, rfl, hkp, hall⟩ := hrel
    have HA := Lib.hid hall; clear hall
    by_cases hlt : k < 5
    · have hix := fun W' => index_fld W' k hlt
      have F0 := Fl.new k wr
      have ka := (Kept.refl wr).alloc (fldO k)
      have hck := (C1.out.kept (hkp.trans ka)) k hlt
      have Bk := B1.out.kept (hkp.trans ka)
      obtain ⟨r1, r2⟩ := cr_L sl c.st k hlt
      have d1 := cell_of Bk r1
      have d2 := cell_of Bk r2
      have KP := Lib.hid (hkp.trans ka)
      obtain ⟨e0, e1, e2, e3⟩ := (⟨F0.c0, F0.c1, F0.c2, F0.c3⟩ : _ ∧ _ ∧ _ ∧ _)
      clear hkp ka Bk r1 r2 F0
      go_upto_region 4 with (fail)
      generalize wr.alloc (fldO k) = X at *
      generalize hv : sl k = v at *
      generalize hl : c.L k = l at *
      generalize hs : c.st k = s at *
      have HL := Lib.hid hl; have HS := Lib.hid hs
      clear hv hl hs
      go_region_held3 (fun y => Kept X y ∧ y.cell? ⟨wr.heap.size, 0, none⟩ = some (.int .i64 (lo k)) ∧ y.cell? ⟨wr.heap.size, 1, none⟩ = some (.int .i64 (Crn.hi k)) ∧ y.cell? ⟨wr.heap.size, 2, none⟩ = some (.int .i64 (Crn.wr k)) ∧ y.cell? ⟨wr.heap.size, 3, none⟩ = some (.string ⟨(nms k).toArray⟩) ∧ y.cell? ⟨w.heap.size, k, none⟩ = some v ∧ y.cell? ⟨w.heap.size, 5 + k, none⟩ = some (.bool s))
        (first | exact mb_held (by assumption) (by assumption) | assumption | exact ⟨(Kept.refl X).drew, e0, e1, e2, e3, d1, d2⟩)
        (first | (go_at_call 45; refine (fmay_any k v l s _ (hck.kept (by go_split_ands; assumption))).mono ?_; rintro e w' ⟨rfl, hk'⟩))
      obtain ⟨hK, -⟩ := ‹Kept X _ ∧ _›
      cases hm : mayF k l s with
      | false =>
        have HE := Lib.hid (mayC_no (c := c) hlt (by rw [HL.out, HS.out]; exact hm))
        go_wp2
        go_ret
        exact ⟨ret_bool HE.out.symm, K1.out.trans (KP.out.trans hK)⟩
      | true =>
        have HE := Lib.hid hm; clear hm
        go_wp2
        go_roundw
        case rel => exact ⟨k + 1, hlt, by go_num, KP.out.trans hK, fun j hj => by
          by_cases e : j = k
          · subst e; rw [HL.out, HS.out]; exact HE.out
          · exact HA.out j (by omega)⟩
        case measure => simp [intOf]; omega
    · have HE := Lib.hid (mayC_yes (c := c) (fun j hj => HA.out j (by omega)))
      go_wp2
      go_ret
      exact ⟨ret_bool HE.out.symm, K1.out.trans hkp⟩
end Go.Proofs.YtilgamjahediiaaGreatDoor
/- Contracts of package cron: whether a day, or a day and time, is one of a schedule. -/
set_option linter.unusedVariables false
namespace Go.Proofs.YtilgamjahediiaaGreatDoor
open Go.ChangeShapes Go.WideShapes Go.ChangeAt Go.RowKit
open Crn Civ
noncomputable def dayC (c : CR) (y m d : Int) : Bool := okB y m d && mayC c && hasB (c.L 3) m && (if (c.st 2 || c.st 4) = true then hasB (c.L 2) d && hasB (c.L 4) (wd (ord y m d)) else hasB (c.L 2) d || hasB (c.L 4) (wd (ord y m d)))
theorem cells10 {b : Nat} {sl : Nat → Value} {st : Nat → Bool} {x : World} (h : Cb b sl st x) : x.cell? ⟨b, 0, none⟩ = some (sl 0) ∧ x.cell? ⟨b, 1, none⟩ = some (sl 1) ∧ x.cell? ⟨b, 2, none⟩ = some (sl 2) ∧ x.cell? ⟨b, 3, none⟩ = some (sl 3) ∧ x.cell? ⟨b, 4, none⟩ = some (sl 4) ∧ x.cell? ⟨b, 5, none⟩ = some (.bool (st 0)) ∧ x.cell? ⟨b, 6, none⟩ = some (.bool (st 1)) ∧ x.cell? ⟨b, 7, none⟩ = some (.bool (st 2)) ∧ x.cell? ⟨b, 8, none⟩ = some (.bool (st 3)) ∧ x.cell? ⟨b, 9, none⟩ = some (.bool (st 4)) :=
  ⟨cell_of h rfl, cell_of h rfl, cell_of h rfl, cell_of h rfl, cell_of h rfl, cell_of h rfl, cell_of h rfl, cell_of h rfl, cell_of h rfl, cell_of h rfl⟩
set_option maxRecDepth 100000 in
set_option maxHeartbeats 2000000 in
theorem kday_any (c : CR) (sl : Nat → Value) (y m d : Int) (w : World) (hc : Cr w sl c.L) : Calls Tryz.prog 48 #[crV sl c.st, .int .i64 y, .int .i64 m, .int .i64 d] w fun e w' => e = .returned (.bool (dayC c y m d)) ∧ Kept w w' := by
  have k0 := (Kept.refl w).alloc (.cells (cr10 sl c.st) 30)
  have B0 := Lib.hid (Cb.new sl c.st w)
  have C0 := Lib.hid (hc.kept k0)
  clear hc
  by_cases ko : okP y m d
  · have KO := Lib.hid ko; clear ko
    have HD := Lib.hid (show dayC c y m d = (mayC c && hasB (c.L 3) m && (if (c.st 2 || c.st 4) = true then hasB (c.L 2) d && hasB (c.L 4) (wd (ord y m d)) else hasB (c.L 2) d || hasB (c.L 4) (wd (ord y m d)))) by unfold dayC; rw [(okB_iff y m d).2 KO.out]; rfl)
    go_enter Tryz.func48, Tryz.ntmps48
    go_upto_region 1 with (fail)
    generalize w.alloc (.cells (cr10 sl c.st) 30) = x at *
    go_wp2_with fail
    refine (ord_yes y m d _ KO.out).mono ?_
    rintro e x1 ⟨rfl, k1⟩
    have B1 := Lib.hid (B0.out.kept k1); have C1 := Lib.hid (C0.out.kept k1); have K1 := Lib.hid (k0.trans k1)
    clear k0 k1 B0 C0
    generalize ord y m d = n at *
    obtain ⟨e0, e1, e2, e3, e4, e5, e6, e7, e8, e9⟩ := cells10 B1.out
    go_wp2_with fail
    refine (cmay_any c sl _ C1.out).mono ?_
    rintro e x2 ⟨rfl, k2⟩
    have B2 := Lib.hid (B1.out.kept k2); have C2 := Lib.hid (C1.out.kept k2); have K2 := Lib.hid (K1.out.trans k2)
    clear k2 B1 C1 K1
    clear e0 e1 e2 e3 e4 e5 e6 e7 e8 e9
    cases hm : mayC c with
    | false =>
      have HR := Lib.hid (show dayC c y m d = false by rw [HD.out, hm]; rfl)
      clear hm
      go_wp2
      go_ret
      exact ⟨ret_bool HR.out.symm, K2.out⟩
    | true =>
      have HM := Lib.hid hm; clear hm
      obtain ⟨e0, e1, e2, e3, e4, e5, e6, e7, e8, e9⟩ := cells10 B2.out
      go_wp2_with fail
      refine (chas_any sl c.st c.L 3 (by omega) m _ C2.out).mono ?_
      rintro e x3 ⟨rfl, k3⟩
      have B3 := Lib.hid (B2.out.kept k3); have C3 := Lib.hid (C2.out.kept k3); have K3 := Lib.hid (K2.out.trans k3)
      clear k3 B2 C2 K2
      clear e0 e1 e2 e3 e4 e5 e6 e7 e8 e9
      cases h3 : hasB (c.L 3) m with
      | false =>
        have HR := Lib.hid (show dayC c y m d = false by rw [HD.out, h3]; simp)
        clear h3
        go_wp2
        go_ret
        exact ⟨ret_bool HR.out.symm, K3.out⟩
      | true =>
        have HX := Lib.hid (show dayC c y m d = (if (c.st 2 || c.st 4) = true then hasB (c.L 2) d && hasB (c.L 4) (wd n) else hasB (c.L 2) d || hasB (c.L 4) (wd n)) by rw [HD.out, HM.out, h3]; rfl)
        clear h3 HD
        obtain ⟨e0, e1, e2, e3, e4, e5, e6, e7, e8, e9⟩ := cells10 B3.out
        go_wp2_with fail
        refine (chas_any sl c.st c.L 2 (by omega) d _ C3.out).mono ?_
        rintro e x4 ⟨rfl, k4⟩
        have B4 := Lib.hid (B3.out.kept k4); have C4 := Lib.hid (C3.out.kept k4); have K4 := Lib.hid (K3.out.trans k4)
        clear k4 B3 C3 K3
        clear e0 e1 e2 e3 e4 e5 e6 e7 e8 e9
        generalize hasB (c.L 2) d = b2 at *
        go_upto_region 5 with (fail)
        have K4b := Lib.hid ((Kept.refl x4).drew)
        obtain ⟨e0, e1, e2, e3, e4, e5, e6, e7, e8, e9⟩ := cells10 B4.out
        refine wp_region_held_drew (S := fun y => Kept x4 y ∧ y.cell? ⟨w.heap.size, 0, none⟩ = some (sl 0) ∧ y.cell? ⟨w.heap.size, 1, none⟩ = some (sl 1) ∧ y.cell? ⟨w.heap.size, 2, none⟩ = some (sl 2) ∧ y.cell? ⟨w.heap.size, 3, none⟩ = some (sl 3) ∧ y.cell? ⟨w.heap.size, 4, none⟩ = some (sl 4) ∧ y.cell? ⟨w.heap.size, 5, none⟩ = some (.bool (c.st 0)) ∧ y.cell? ⟨w.heap.size, 6, none⟩ = some (.bool (c.st 1)) ∧ y.cell? ⟨w.heap.size, 7, none⟩ = some (.bool (c.st 2)) ∧ y.cell? ⟨w.heap.size, 8, none⟩ = some (.bool (c.st 3)) ∧ y.cell? ⟨w.heap.size, 9, none⟩ = some (.bool (c.st 4))) (by kernel_rfl) ⟨K4b.out, e0, e1, e2, e3, e4, e5, e6, e7, e8, e9⟩ (fun hS0 => ?_)
        refine wpAnyH_take (i := 0) (oi := { dst := some 36, op := Go.Op.load 30 (Go.Operand.tmp 4), type := 30, pos := "cron.go:70", after := #[], guard := none }) (v := ?va0) rfl (by kernel_rfl) (by kernel_rfl) (by kernel_rfl) (fun _ _ _ h => h) (Or.inl ⟨by rfl, ?ya0⟩) (by assumption) ?ra0
        case ya0 => (intro wq hSw; (try dsimp only at hSw); go_simp; try with_reducible rfl)
        simp only [Act.put, List.setIfInBounds_toArray, List.set_cons_zero, List.set_cons_succ]
        refine wpAnyH_take (i := 1) (oi := { dst := some 37, op := Go.Op.move (Go.Operand.tmp 9), type := 3, pos := "cron.go:70", after := #[], guard := none }) (v := ?va1) rfl (by kernel_rfl) (by kernel_rfl) (by kernel_rfl) (fun _ _ _ h => h) (Or.inl ⟨by rfl, ?ya1⟩) (by assumption) ?ra1
        case ya1 => (intro wq hSw; (try dsimp only at hSw); go_simp; try with_reducible rfl)
        simp only [Act.put, List.setIfInBounds_toArray, List.set_cons_zero, List.set_cons_succ]
        refine wpAnyH_ready (rs := [2]) (by kernel_rfl) (by simp) (AllReadyH.cons (o := { dst := some 38, op := Go.Op.call { callee := Go.Callee.value (Go.Operand.func 79), args := #[Go.Operand.tmp 37], argTypes := #[3] }, type := 3, pos := "cron.go:70", after := #[{ on := 1, ground := Go.Ground.data }], guard := none }) rfl (fun K hK => ?_) AllReadyH.nil)
        go_simp
        go_at_call 79; refine (wday_any n _).mono ?_
        rintro e x5 ⟨rfl, rfl⟩
        refine Shut.out hK _ _ ‹Kept x4 _ ∧ _› (fun hSb => ?_)
        clear hK K
        try simp only [Act.put, List.setIfInBounds_toArray, List.set_cons_zero, List.set_cons_succ]
        refine wpAnyH_ready (rs := [3]) (by kernel_rfl) (by simp) (AllReadyH.cons (o := { dst := some 39, op := Go.Op.call { callee := Go.Callee.value (Go.Operand.func 47), args := #[Go.Operand.tmp 36, Go.Operand.const (Go.Value.int Go.IntKind.i64 4), Go.Operand.tmp 38], argTypes := #[30, 3, 3] }, type := 4, pos := "cron.go:70", after := #[{ on := 0, ground := Go.Ground.data }, { on := 2, ground := Go.Ground.data }, { on := 2, ground := Go.Ground.chain }], guard := none }) rfl (fun K hK => ?_) AllReadyH.nil)
        go_simp
        go_at_call 47; refine (chas_any sl c.st c.L 4 (by omega) (wd n) x4.drew (C4.out.kept K4b.out)).mono ?_
        rintro e x5 ⟨rfl, k5⟩
        have k5' : Kept x4 x5 := K4b.out.trans k5
        have B5 := Lib.hid (B4.out.kept k5'); have K5 := Lib.hid (K4.out.trans k5')
        clear e0 e1 e2 e3 e4 e5 e6 e7 e8 e9
        obtain ⟨e0, e1, e2, e3, e4, e5, e6, e7, e8, e9⟩ := cells10 B5.out
        generalize hasB (c.L 4) (wd n) = b4 at *
        refine Shut.out hK _ _ ⟨k5', e0, e1, e2, e3, e4, e5, e6, e7, e8, e9⟩ (fun hSb => ?_)
        clear hK K
        try simp only [Act.put, List.setIfInBounds_toArray, List.set_cons_zero, List.set_cons_succ]
        refine wpAnyH_take (i := 4) (oi := { dst := some 12, op := Go.Op.assign (Go.Operand.tmp 39), type := 4, pos := "cron.go:70", after := #[{ on := 3, ground := Go.Ground.data }, { on := 3, ground := Go.Ground.chain }, { on := 0, ground := Go.Ground.phase }, { on := 1, ground := Go.Ground.phase }, { on := 2, ground := Go.Ground.phase }, { on := 3, ground := Go.Ground.phase }], guard := none }) (v := ?va4) rfl (by kernel_rfl) (by kernel_rfl) (by kernel_rfl) (fun _ _ _ h => h) (Or.inl ⟨by rfl, ?ya4⟩) (by assumption) ?ra4
        case ya4 => (intro wq hSw; (try dsimp only at hSw); go_simp; try with_reducible rfl)
        simp only [Act.put, List.setIfInBounds_toArray, List.set_cons_zero, List.set_cons_succ]
        refine wpAnyH_done (by kernel_rfl) ?_ _
        clear hSb hS0
        generalize c.st 2 = s2 at *
        generalize c.st 4 = s4 at *
        cases s2 <;> cases s4 <;> cases b2 <;> cases b4
        all_goals (go_wp2; go_ret; exact ⟨ret_bool (by rw [HX.out]; rfl), K5.out⟩)
  · have HD := Lib.hid (show dayC c y m d = false by unfold dayC; rw [(okB_no y m d).2 ko]; rfl)
    have KO := Lib.hid ko; clear ko
    go_enter Tryz.func48, Tryz.ntmps48
    go_upto_region 1 with (fail)
    generalize w.alloc (.cells (cr10 sl c.st) 30) = x at *
    go_wp2_with fail
    refine (ord_not y m d _ KO.out).mono ?_
    rintro e x1 ⟨rfl, k1⟩
    go_wp2
    go_ret
    exact ⟨ret_bool HD.out.symm, k0.trans k1⟩
end Go.Proofs.YtilgamjahediiaaGreatDoor
/- Contracts of package cron: whether a day and time is one of a schedule. -/
set_option linter.unusedVariables false
namespace Go.Proofs.YtilgamjahediiaaGreatDoor
open Go.ChangeShapes Go.WideShapes Go.ChangeAt Go.RowKit
open Crn Civ
noncomputable def matchC (c : CR) (y m d h i s : Int) : Bool := mayB y m d h i s && decide (s = 0) && hasB (c.L 0) i && hasB (c.L 1) h && dayC c y m d
/-- a day and time in a block of its own -/
def KBc (b : Nat) (y m d h i s : Int) (x : World) : Prop := x.heap[b]? = some (.cells #[.int .i64 y, .int .i64 m, .int .i64 d, .int .i64 h, .int .i64 i, .int .i64 s] 34)
theorem KBc.lt {b : Nat} {y m d h i s : Int} {x : World} (H : KBc b y m d h i s x) : b < x.heap.size := (Array.getElem?_eq_some_iff.1 H).1
theorem KBc.kept {b : Nat} {y m d h i s : Int} {x x' : World} (H : KBc b y m d h i s x) (k : Kept x x') : KBc b y m d h i s x' := (k.block b H.lt).trans H
theorem cells6 {b : Nat} {y m d h i s : Int} {x : World} (H : KBc b y m d h i s x) : x.cell? ⟨b, 0, none⟩ = some (.int .i64 y) ∧ x.cell? ⟨b, 1, none⟩ = some (.int .i64 m) ∧ x.cell? ⟨b, 2, none⟩ = some (.int .i64 d) ∧ x.cell? ⟨b, 3, none⟩ = some (.int .i64 h) ∧ x.cell? ⟨b, 4, none⟩ = some (.int .i64 i) ∧ x.cell? ⟨b, 5, none⟩ = some (.int .i64 s) :=
  ⟨cell_of H rfl, cell_of H rfl, cell_of H rfl, cell_of H rfl, cell_of H rfl, cell_of H rfl⟩
set_option maxRecDepth 100000 in
set_option maxHeartbeats 2000000 in
theorem match_any (c : CR) (sl : Nat → Value) (y m d h i s : Int) (w : World) (hc : Cr w sl c.L) : Calls Tryz.prog 20 #[crV sl c.st, civ y m d h i s] w fun e w' => e = .returned (.bool (matchC c y m d h i s)) ∧ Kept w w' := by
  have q0 := (Kept.refl w).alloc (.cells (cr10 sl c.st) 30)
  have b0 := Cb.new sl c.st w
  have q1 := (Kept.refl (w.alloc (.cells (cr10 sl c.st) 30))).alloc (.cells #[.int .i64 y, .int .i64 m, .int .i64 d, .int .i64 h, .int .i64 i, .int .i64 s] 34)
  have d0 : KBc (w.alloc (.cells (cr10 sl c.st) 30)).heap.size y m d h i s ((w.alloc (.cells (cr10 sl c.st) 30)).alloc (.cells #[.int .i64 y, .int .i64 m, .int .i64 d, .int .i64 h, .int .i64 i, .int .i64 s] 34)) := new_block _ _
  have hsz : (w.alloc (.cells (cr10 sl c.st) 30)).heap.size = w.heap.size + 1 := by simp
  rw [hsz] at d0
  have B1 := Lib.hid (b0.kept q1)
  have C1 := Lib.hid ((hc.kept q0).kept q1)
  have K1 := Lib.hid (q0.trans q1)
  have D1 := Lib.hid d0
  clear hc q0 q1 b0 d0 hsz
  have HD := Lib.hid (show matchC c y m d h i s = (mayB y m d h i s && decide (s = 0) && hasB (c.L 0) i && hasB (c.L 1) h && dayC c y m d) from rfl)
  go_enter Tryz.func20, Tryz.ntmps20
  go_upto_region 1 with (fail)
  generalize (w.alloc (.cells (cr10 sl c.st) 30)).alloc (.cells #[.int .i64 y, .int .i64 m, .int .i64 d, .int .i64 h, .int .i64 i, .int .i64 s] 34) = x1 at *
  obtain ⟨e0, e1, e2, e3, e4, e5, e6, e7, e8, e9⟩ := cells10 B1.out
  obtain ⟨u0, u1, u2, u3, u4, u5⟩ := cells6 D1.out
  go_wp2_with fail
  refine (may_any y m d h i s _).mono ?_
  rintro e x2 ⟨rfl, k2⟩
  have B2 := Lib.hid (B1.out.kept k2); have C2 := Lib.hid (C1.out.kept k2); have K2 := Lib.hid (K1.out.trans k2); have D2 := Lib.hid (D1.out.kept k2)
  clear k2 B1 C1 K1 D1
  clear e0 e1 e2 e3 e4 e5 e6 e7 e8 e9 u0 u1 u2 u3 u4 u5
  cases h1 : mayB y m d h i s with
  | false =>
    have HR := Lib.hid (show matchC c y m d h i s = false by rw [HD.out, h1]; simp)
    clear h1
    obtain ⟨e0, e1, e2, e3, e4, e5, e6, e7, e8, e9⟩ := cells10 B2.out
    obtain ⟨u0, u1, u2, u3, u4, u5⟩ := cells6 D2.out
    go_wp2
    go_ret
    exact ⟨ret_bool HR.out.symm, K2.out⟩
  | true =>
    by_cases h2 : ¬ s = 0
    · have h2' := decide_eq_false h2
      have HR := Lib.hid (show matchC c y m d h i s = false by rw [HD.out, h2']; simp)
      clear h2' h1
      obtain ⟨e0, e1, e2, e3, e4, e5, e6, e7, e8, e9⟩ := cells10 B2.out
      obtain ⟨u0, u1, u2, u3, u4, u5⟩ := cells6 D2.out
      go_wp2
      go_ret
      exact ⟨ret_bool HR.out.symm, K2.out⟩
    have h2' := decide_eq_true (show s = 0 by omega)
    have HE := Lib.hid (show matchC c y m d h i s = (hasB (c.L 0) i && hasB (c.L 1) h && dayC c y m d) by rw [HD.out, h1, h2']; rfl)
    clear HD h1 h2'
    have HD := HE; clear HE
    obtain ⟨e0, e1, e2, e3, e4, e5, e6, e7, e8, e9⟩ := cells10 B2.out
    obtain ⟨u0, u1, u2, u3, u4, u5⟩ := cells6 D2.out
    go_wp2_with fail
    refine (chas_any sl c.st c.L 0 (by omega) i _ C2.out).mono ?_
    rintro e x3 ⟨rfl, k3⟩
    have B3 := Lib.hid (B2.out.kept k3); have C3 := Lib.hid (C2.out.kept k3); have K3 := Lib.hid (K2.out.trans k3); have D3 := Lib.hid (D2.out.kept k3)
    clear k3 B2 C2 K2 D2
    clear e0 e1 e2 e3 e4 e5 e6 e7 e8 e9 u0 u1 u2 u3 u4 u5
    cases h3 : hasB (c.L 0) i with
    | false =>
      have HR := Lib.hid (show matchC c y m d h i s = false by rw [HD.out, h3]; simp)
      clear h3
      obtain ⟨e0, e1, e2, e3, e4, e5, e6, e7, e8, e9⟩ := cells10 B3.out
      obtain ⟨u0, u1, u2, u3, u4, u5⟩ := cells6 D3.out
      go_wp2
      go_ret
      exact ⟨ret_bool HR.out.symm, K3.out⟩
    | true =>
      have HE := Lib.hid (show matchC c y m d h i s = (hasB (c.L 1) h && dayC c y m d) by rw [HD.out, h3]; rfl)
      clear HD h3
      have HD := HE; clear HE
      obtain ⟨e0, e1, e2, e3, e4, e5, e6, e7, e8, e9⟩ := cells10 B3.out
      obtain ⟨u0, u1, u2, u3, u4, u5⟩ := cells6 D3.out
      go_wp2_with fail
      refine (chas_any sl c.st c.L 1 (by omega) h _ C3.out).mono ?_
      rintro e x4 ⟨rfl, k4⟩
      have B4 := Lib.hid (B3.out.kept k4); have C4 := Lib.hid (C3.out.kept k4); have K4 := Lib.hid (K3.out.trans k4); have D4 := Lib.hid (D3.out.kept k4)
      clear k4 B3 C3 K3 D3
      clear e0 e1 e2 e3 e4 e5 e6 e7 e8 e9 u0 u1 u2 u3 u4 u5
      cases h4 : hasB (c.L 1) h with
      | false =>
        have HR := Lib.hid (show matchC c y m d h i s = false by rw [HD.out, h4]; simp)
        clear h4
        obtain ⟨e0, e1, e2, e3, e4, e5, e6, e7, e8, e9⟩ := cells10 B4.out
        obtain ⟨u0, u1, u2, u3, u4, u5⟩ := cells6 D4.out
        go_wp2
        go_ret
        exact ⟨ret_bool HR.out.symm, K4.out⟩
      | true =>
        have HE := Lib.hid (show matchC c y m d h i s = dayC c y m d by rw [HD.out, h4]; rfl)
        clear HD h4
        obtain ⟨e0, e1, e2, e3, e4, e5, e6, e7, e8, e9⟩ := cells10 B4.out
        obtain ⟨u0, u1, u2, u3, u4, u5⟩ := cells6 D4.out
        go_wp2_with fail
        refine (kday_any c sl y m d _ C4.out).mono ?_
        rintro e x5 ⟨rfl, k5⟩
        have B5 := Lib.hid (B4.out.kept k5); have C5 := Lib.hid (C4.out.kept k5); have K5 := Lib.hid (K4.out.trans k5); have D5 := Lib.hid (D4.out.kept k5)
        clear k5 B4 C4 K4 D4
        clear e0 e1 e2 e3 e4 e5 e6 e7 e8 e9 u0 u1 u2 u3 u4 u5
        generalize dayC c y m d = b at *
        obtain ⟨e0, e1, e2, e3, e4, e5, e6, e7, e8, e9⟩ := cells10 B5.out
        obtain ⟨u0, u1, u2, u3, u4, u5⟩ := cells6 D5.out
        go_wp2
        go_ret
        exact ⟨ret_bool HE.out.symm, K5.out⟩
end Go.Proofs.YtilgamjahediiaaGreatDoor
