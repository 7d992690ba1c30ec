/- Contracts of package cron: whether a schedule may be. -/
import Derived.Test.YtcmdjpgabkjbpaaGreatDoorCrParse
import Derived.Deep.RegionHeld3
set_option linter.unusedVariables false
namespace Go.Proofs.YtcmdjpgabkjbpaaGreatDoor
open Go.ChangeShapes Go.WideShapes Go.ChangeAt Go.RowKit
open Crn
theorem rises_step {l : List Int} {k : Nat} {n least top : Int} (h : l[k]? = some n) : rises least top (l.drop k) = (decide (least ≤ n ∧ n ≤ top) && rises (n + 1) top (l.drop (k + 1))) := by
  have : l.drop k = n :: l.drop (k + 1) := by
    obtain ⟨hk, rfl⟩ := List.getElem?_eq_some_iff.1 h
    exact List.drop_eq_getElem_cons hk
  rw [this, rises]
set_option maxRecDepth 100000 in
set_option maxHeartbeats 2000000 in
theorem fmay_any (f : Nat) (v : Value) (l : List Int) (s : Bool) (w : World) (hv : Rs w v l) : Calls Tryz.prog 41 #[fld f, v, .bool s] w fun e w' => e = .returned (.bool (mayF f l s)) ∧ Kept w w' := by
  have hlen := hv.len
  unfold maxLen at hlen
  have hlo := lo_bd f; have hhi := hi_bd f
  have k0 := (Kept.refl w).alloc (fldO f)
  have F0 := Fl.new f w
  have hv0 := hv.kept k0
  obtain ⟨e0, e1, e2, e3⟩ := (⟨F0.c0, F0.c1, F0.c2, F0.c3⟩ : _ ∧ _ ∧ _ ∧ _)
  obtain ⟨ad, c, rfl⟩ := hv.slice
  clear hv
  go_enter Tryz.func41, Tryz.ntmps41
  go_upto_region 1 with (fail)
  generalize w.alloc (fldO f) = x at *
  have HV := Lib.hid hv0; clear hv0 F0
  by_cases hz : l.length = 0
  · obtain rfl : l = [] := List.length_eq_zero_iff.1 hz
    have hm : mayF f [] s = false := rfl
    go_wp2
    go_ret
    exact ⟨ret_bool hm.symm, k0⟩
  · have hne : l.isEmpty = false := by cases l with | nil => exact absurd rfl hz | cons a r => rfl
    have hM := Lib.hid (show mayF f l s = (rises (lo f) (Crn.hi f) l && (!s || decide ((l.length : Int) = Crn.hi f - lo f + 1))) by unfold mayF; rw [hne]; simp)
    have hzI : ¬ (l.length : Int) = 0 := by omega
    clear hz hne
    go_wp2_with fail
    go_loopw [7, 17] (fun a i y => y = x ∧ ∃ (k : Nat) (m : Int), k ≤ l.length ∧ i = .int .i64 k ∧ a = .int .i64 m ∧ lo f ≤ m ∧ m ≤ Crn.hi f + 1 ∧ rises (lo f) (Crn.hi f) l = rises m (Crn.hi f) (l.drop k)) (fun _ i _ => l.length - (intOf i).toNat)
    case atStart => exact ⟨rfl, 0, lo f, Nat.zero_le _, rfl, rfl, Int.le_refl _, by omega, by simp⟩
    case round =>
      obtain ⟨rfl, k, m, hk, rfl, rfl, m1, m2, hr⟩ := hrel
      by_cases hlt : k < l.length
      · obtain ⟨b, o, c2, hs, hb, hcell⟩ := HV.out.at hlt
        simp only [Value.slice.injEq] at hs
        obtain ⟨rfl, _, rfl⟩ := hs
        obtain ⟨n, hn⟩ : ∃ n, l[k]? = some n := ⟨_, List.getElem?_eq_getElem hlt⟩
        have ck := hcell k n hn
        have HS := Lib.hid (hr.trans (rises_step hn))
        clear hcell hn hr
        by_cases g1 : n < m
        · have HE := Lib.hid (show mayF f l s = false by rw [hM.out, HS.out, decide_eq_false (by omega)]; rfl)
          go_wp2
          go_ret
          exact ⟨ret_bool HE.out.symm, k0⟩
        · by_cases g2 : Crn.hi f < n
          · have HE := Lib.hid (show mayF f l s = false by rw [hM.out, HS.out, decide_eq_false (by omega)]; rfl)
            go_wp2
            go_ret
            exact ⟨ret_bool HE.out.symm, k0⟩
          · have HE := Lib.hid (show rises (lo f) (Crn.hi f) l = rises (n + 1) (Crn.hi f) (l.drop (k + 1)) by rw [HS.out, decide_eq_true (by omega)]; rfl)
            go_wp2
            go_roundw
            case rel => exact ⟨trivial, k + 1, n + 1, hlt, by go_num, by go_num, by omega, by omega, HE.out⟩
            case measure => simp [intOf]; omega
      · have HE := Lib.hid (show mayF f l s = (!s || decide ((l.length : Int) = Crn.hi f - lo f + 1)) by rw [hM.out, hr, List.drop_eq_nil_of_le (by omega)]; simp [rises])
        cases s with
        | false =>
          go_wp2
          go_ret
          exact ⟨ret_bool (by rw [HE.out]; rfl), k0⟩
        | true =>
          go_wp2
          go_ret
          exact ⟨ret_bool (by rw [HE.out]; by_cases h : (l.length : Int) = Crn.hi f - lo f + 1 <;> simp [h]), k0⟩
/-- a schedule in a block of its own -/
def Cb (b : Nat) (sl : Nat → Value) (st : Nat → Bool) (x : World) : Prop := x.heap[b]? = some (.cells (cr10 sl st) 27)
theorem Cb.lt {b : Nat} {sl : Nat → Value} {st : Nat → Bool} {x : World} (h : Cb b sl st x) : b < x.heap.size := (Array.getElem?_eq_some_iff.1 h).1
theorem Cb.kept {b : Nat} {sl : Nat → Value} {st : Nat → Bool} {x x' : World} (h : Cb b sl st x) (k : Kept x x') : Cb b sl st x' := (k.block b h.lt).trans h
theorem Cb.new (sl : Nat → Value) (st : Nat → Bool) (w : World) : Cb w.heap.size sl st (w.alloc (.cells (cr10 sl st) 27)) := new_block w _
/-- the five lists that a value reads as -/
def Cr (x : World) (sl : Nat → Value) (L : Nat → List Int) : Prop := ∀ i, i < 5 → Rs x (sl i) (L i)
theorem Cr.kept {x x' : World} {sl : Nat → Value} {L : Nat → List Int} (h : Cr x sl L) (k : Kept x x') : Cr x' sl L := fun i hi => (h i hi).kept k
def hasB (l : List Int) (n : Int) : Bool := l.contains n
theorem contains_any (v : Value) (l : List Int) (n : Int) (w : World) (hv : Rs w v l) : Calls Tryz.prog 60 #[v, .int .i64 n] w fun e w' => e = .returned (.bool (hasB l n)) ∧ w = w' := by
  have hl := hv.len
  unfold maxLen at hl
  rcases hv with ⟨rfl, ad, c, rfl⟩ | ⟨hne, b, o, c, rfl, hb, _, hc⟩
  · refine (Tryz.slices_Contains_int_empty ad c n w).mono ?_
    rintro e w' ⟨rfl, rfl⟩
    exact ⟨rfl, rfl⟩
  · refine (Tryz.slices_Contains_int b o l.length c l n w (Nat.le_refl _) (by omega) (fun j hj => ?_)).mono ?_
    · exact hc j _ (by simp [List.getD, List.getElem?_eq_getElem hj])
    · rintro e w' ⟨rfl, rfl⟩
      exact ⟨by rw [List.take_length]; rfl, rfl⟩
set_option maxRecDepth 100000 in
theorem chas_any (sl : Nat → Value) (st : Nat → Bool) (L : Nat → List Int) (i : Nat) (hi : i < 5) (n : Int) (w : World) (hc : Cr w sl L) : Calls Tryz.prog 43 #[crV sl st, .int .i64 i, .int .i64 n] w fun e w' => e = .returned (.bool (hasB (L i) n)) ∧ Kept w w' := by
  have k0 := (Kept.refl w).alloc (.cells (cr10 sl st) 27)
  have B0 := Cb.new sl st w
  have hv := (hc.kept k0) i hi
  rcases (show i = 0 ∨ i = 1 ∨ i = 2 ∨ i = 3 ∨ i = 4 by omega) with rfl | rfl | rfl | rfl | rfl
  all_goals
    go_enter Tryz.func43, Tryz.ntmps43
    go_upto_region 1 with (fail)
    generalize w.alloc (.cells (cr10 sl st) 27) = x at *
    have e0 := cell_of (j := 0) B0 rfl
    have e1 := cell_of (j := 1) B0 rfl
    have e2 := cell_of (j := 2) B0 rfl
    have e3 := cell_of (j := 3) B0 rfl
    have e4 := cell_of (j := 4) B0 rfl
    go_wp2_with fail
    refine (contains_any _ _ _ _ hv).mono ?_
    rintro e w' ⟨rfl, rfl⟩
    go_wp2
    go_ret
    exact ⟨rfl, k0⟩
theorem mayC_no {c : CR} {k : Nat} (hk : k < 5) (h : mayF k (c.L k) (c.st k) = false) : mayC c = false := by
  unfold mayC
  rcases (show k = 0 ∨ k = 1 ∨ k = 2 ∨ k = 3 ∨ k = 4 by omega) with rfl | rfl | rfl | rfl | rfl <;> simp [h]
theorem mayC_yes {c : CR} (h : ∀ k, k < 5 → mayF k (c.L k) (c.st k) = true) : mayC c = true := by
  unfold mayC
  rw [h 0 (by omega), h 1 (by omega), h 2 (by omega), h 3 (by omega), h 4 (by omega)]; rfl
theorem cr_L (sl : Nat → Value) (st : Nat → Bool) (k : Nat) (hk : k < 5) : (cr10 sl st)[k]? = some (sl k) ∧ (cr10 sl st)[5 + k]? = some (.bool (st k)) := by
  rcases (show k = 0 ∨ k = 1 ∨ k = 2 ∨ k = 3 ∨ k = 4 by omega) with rfl | rfl | rfl | rfl | rfl <;> exact ⟨rfl, rfl⟩
theorem mb_held {X x x' : World} {f b d k : Nat} {v : Value} {s : Bool} (kk : Kept x x') (H : Kept X x ∧ x.cell? ⟨b, 0, none⟩ = some (.int .i64 (lo f)) ∧ x.cell? ⟨b, 1, none⟩ = some (.int .i64 (Crn.hi f)) ∧ x.cell? ⟨b, 2, none⟩ = some (.int .i64 (wr f)) ∧ x.cell? ⟨b, 3, none⟩ = some (.string ⟨(nms f).toArray⟩) ∧ x.cell? ⟨d, k, none⟩ = some v ∧ x.cell? ⟨d, 5 + k, none⟩ = some (.bool s)) :
    Kept X x' ∧ x'.cell? ⟨b, 0, none⟩ = some (.int .i64 (lo f)) ∧ x'.cell? ⟨b, 1, none⟩ = some (.int .i64 (Crn.hi f)) ∧ x'.cell? ⟨b, 2, none⟩ = some (.int .i64 (wr f)) ∧ x'.cell? ⟨b, 3, none⟩ = some (.string ⟨(nms f).toArray⟩) ∧ x'.cell? ⟨d, k, none⟩ = some v ∧ x'.cell? ⟨d, 5 + k, none⟩ = some (.bool s) := by
  obtain ⟨h0, h1, h2, h3, h4, h5, h6⟩ := H
  exact ⟨h0.trans kk, (kk.cell (a := ⟨b, 0, none⟩) (lt_cell h1)).trans h1, (kk.cell (a := ⟨b, 1, none⟩) (lt_cell h2)).trans h2, (kk.cell (a := ⟨b, 2, none⟩) (lt_cell h3)).trans h3, (kk.cell (a := ⟨b, 3, none⟩) (lt_cell h4)).trans h4, (kk.cell (a := ⟨d, k, none⟩) (lt_cell h5)).trans h5, (kk.cell (a := ⟨d, 5 + k, none⟩) (lt_cell h6)).trans h6⟩
set_option maxRecDepth 100000 in
set_option maxHeartbeats 2000000 in
theorem cmay_any (c : CR) (sl : Nat → Value) (w : World) (hc : Cr w sl c.L) : Calls Tryz.prog 20 #[crV sl c.st] w fun e w' => e = .returned (.bool (mayC c)) ∧ Kept w w' := by
  have k0 := (Kept.refl w).alloc (.cells (cr10 sl c.st) 27)
  have B0 := Lib.hid (Cb.new sl c.st w)
  have C0 := Lib.hid (hc.kept k0)
  clear hc
  go_enter Tryz.func20, Tryz.ntmps20
  go_upto_region 1 with (fail)
  generalize w.alloc (.cells (cr10 sl c.st) 27) = x at *
  go_wp2_with fail
  refine (fields_any _).mono ?_
  rintro e W ⟨rfl, k1⟩
  have B1 := Lib.hid (B0.out.kept k1); have C1 := Lib.hid (C0.out.kept k1); have K1 := Lib.hid (k0.trans k1)
  clear k0 k1 B0 C0
  go_wp2_with fail
  go_loopw [6] (fun i y => ∃ k : Nat, k ≤ 5 ∧ i = .int .i64 k ∧ Kept W y ∧ ∀ j, j < k → mayF j (c.L j) (c.st j) = true) (fun i _ => 5 - (intOf i).toNat)
  case atStart => exact ⟨0, by omega, rfl, Kept.refl _, fun j hj => by omega⟩
  case round =>
    obtain ⟨k, hk, rfl, hkp, hall⟩ := hrel
    have HA := Lib.hid hall; clear hall
    by_cases hlt : k < 5
    · have hix := fun W' => index_fld W' k hlt
      have F0 := Fl.new k wr
      have ka := (Kept.refl wr).alloc (fldO k)
      have hck := (C1.out.kept (hkp.trans ka)) k hlt
      have Bk := B1.out.kept (hkp.trans ka)
      obtain ⟨r1, r2⟩ := cr_L sl c.st k hlt
      have d1 := cell_of Bk r1
      have d2 := cell_of Bk r2
      have KP := Lib.hid (hkp.trans ka)
      obtain ⟨e0, e1, e2, e3⟩ := (⟨F0.c0, F0.c1, F0.c2, F0.c3⟩ : _ ∧ _ ∧ _ ∧ _)
      clear hkp ka Bk r1 r2 F0
      go_upto_region 4 with (fail)
      generalize wr.alloc (fldO k) = X at *
      generalize hv : sl k = v at *
      generalize hl : c.L k = l at *
      generalize hs : c.st k = s at *
      have HL := Lib.hid hl; have HS := Lib.hid hs
      clear hv hl hs
      go_region_held3 (fun y => Kept X y ∧ y.cell? ⟨wr.heap.size, 0, none⟩ = some (.int .i64 (lo k)) ∧ y.cell? ⟨wr.heap.size, 1, none⟩ = some (.int .i64 (Crn.hi k)) ∧ y.cell? ⟨wr.heap.size, 2, none⟩ = some (.int .i64 (Crn.wr k)) ∧ y.cell? ⟨wr.heap.size, 3, none⟩ = some (.string ⟨(nms k).toArray⟩) ∧ y.cell? ⟨w.heap.size, k, none⟩ = some v ∧ y.cell? ⟨w.heap.size, 5 + k, none⟩ = some (.bool s))
        (first | exact mb_held (by assumption) (by assumption) | assumption | exact ⟨(Kept.refl X).drew, e0, e1, e2, e3, d1, d2⟩)
        (first | (go_at_call 41; refine (fmay_any k v l s _ (hck.kept (by go_split_ands; assumption))).mono ?_; rintro e w' ⟨rfl, hk'⟩))
      obtain ⟨hK, -⟩ := ‹Kept X _ ∧ _›
      cases hm : mayF k l s with
      | false =>
        have HE := Lib.hid (mayC_no (c := c) hlt (by rw [HL.out, HS.out]; exact hm))
        go_wp2
        go_ret
        exact ⟨ret_bool HE.out.symm, K1.out.trans (KP.out.trans hK)⟩
      | true =>
        have HE := Lib.hid hm; clear hm
        go_wp2
        go_roundw
        case rel => exact ⟨k + 1, hlt, by go_num, KP.out.trans hK, fun j hj => by
          by_cases e : j = k
          · subst e; rw [HL.out, HS.out]; exact HE.out
          · exact HA.out j (by omega)⟩
        case measure => simp [intOf]; omega
    · have HE := Lib.hid (mayC_yes (c := c) (fun j hj => HA.out j (by omega)))
      go_wp2
      go_ret
      exact ⟨ret_bool HE.out.symm, K1.out.trans hkp⟩
end Go.Proofs.YtcmdjpgabkjbpaaGreatDoor
