/- Package xml: an attribute. -/
import Derived.Test.YtknggeplnffegaaGreatDoorXpB
import Derived.Test.YtknggeplnffegaaGreatDoorEnDec
set_option linter.unusedVariables false
namespace Go.Proofs.YtknggeplnffegaaGreatDoor
open Go.ChangeShapes Go.WideShapes Go.ChangeAt Go.RowKit
open En Xm
theorem Ob.yes {b : Nat} {w w' : World} (o : Ob b w w') {a : Addr} {v : Value} (h : w.cell? a = some v) (hne : a.block ≠ b) : w'.cell? a = some v := by
  have hb := o.block a.block (cell_lt h) hne
  unfold World.cell? at h ⊢
  rw [hb]; exact h
theorem Below.yes {B : Nat} {w w' : World} (k : Below B w w') {a : Addr} {v : Value} (h : w.cell? a = some v) (hlt : a.block < B) : w'.cell? a = some v := by
  have hb := k.block a.block hlt
  unfold World.cell? at h ⊢
  rw [hb]; exact h
/-- what the code needs of a world; what lies below stays -/
def EX (B0 : Nat) (w : World) : Prop := Env w ∧ Mx w ∧ ∀ j ∈ [1, 2, 3, 0], j < B0
theorem EX.by {B0 : Nat} {w w' : World} (h : EX B0 w) (k : ∀ (a : Addr) (v : Value), a.block < B0 → w.cell? a = some v → w'.cell? a = some v) : EX B0 w' := by
  obtain ⟨⟨⟨h1, h2⟩, ev, h3, h4⟩, ⟨m, h5⟩, h6⟩ := h
  have g1 := h6 1 (by simp)
  have g2 := h6 2 (by simp)
  have g3 := h6 3 (by simp)
  have g4 := h6 0 (by simp)
  exact ⟨⟨⟨fun c hc => k _ _ g1 (h1 c hc), fun i hi => ⟨k _ _ g2 (h2 i hi).1, k _ _ g2 (h2 i hi).2⟩⟩, ev, k _ _ g3 h3, h4⟩, ⟨m, k _ _ g4 h5⟩, h6⟩
theorem EX.ob {B0 b : Nat} {w w' : World} (h : EX B0 w) (o : Ob b w w') (hb : B0 ≤ b) : EX B0 w' := h.by fun a v ha hv => o.yes hv (by omega)
theorem EX.kept {B0 : Nat} {w w' : World} (h : EX B0 w) (k : Kept w w') : EX B0 w' := h.by fun a v ha hv => k.yes hv
theorem EX.below {B0 : Nat} {w w' : World} (h : EX B0 w) (k : Below B0 w w') : EX B0 w' := h.by fun a v ha hv => Below.yes k hv ha
theorem EX.mono {B0 B1 : Nat} {w : World} (h : EX B0 w) (hb : B0 ≤ B1) : EX B1 w := ⟨h.1, h.2.1, fun j hj => Nat.lt_of_lt_of_le (h.2.2 j hj) hb⟩
def PDe (t : B) (w : World) (e : Ending) (w' : World) : Prop := e = (if (gone t).2 = true then .returned (sV (gone t).1) else gon 2) ∧ Kept w w'
theorem pdec_any (t : B) (w : World) (hE : Env w) (hl : t.length ≤ 200000) : Calls Tryz.prog 71 #[sV t] w (PDe t w) := by
  go_enter Tryz.func71, Tryz.ntmps71
  go_wp2_with fail
  refine (decode_any t _ hE hl).mono ?_
  rintro e w1 ⟨rfl, k1⟩
  cases hg : (gone t).2 with
  | true =>
    rw [deT_ok hg, deE_of hg]
    have HG := Lib.hid hg
    clear hg
    go_wp2_with fail
    refine (need_yes _).mono ?_
    rintro e w2 ⟨rfl, rfl⟩
    go_wp2
    go_ret
    exact ⟨by rw [if_pos HG.out]; rfl, k1⟩
  | false =>
    rw [show deE t = 2 by unfold deE; rw [hg]; rfl]
    have HG := Lib.hid hg
    clear hg
    go_wp2_with fail
    refine (need_no _).mono ?_
    rintro e w2 ⟨rfl, rfl⟩
    exact ⟨rfl, by rw [HG.out]; rfl, k1⟩
/-- within the reading of an attribute -/
structure Cx (B0 b : Nat) (r : B) (ov : Value) (g : Bool) (lv : Value) (w0 w : World) : Prop where
  p : PB b r ov g lv w
  o : Ob b w0 w
  e : EX B0 w
  a : Ba w0.heap.size ([], []) w
theorem Cx.ob {B0 b : Nat} {r r' : B} {ov : Value} {g : Bool} {lv : Value} {w0 w w' : World} (h : Cx B0 b r ov g lv w0 w) (hb : B0 ≤ b) (hl : b < w0.heap.size) (o : Ob b w w') (p : PB b r' ov g lv w') : Cx B0 b r' ov g lv w0 w' :=
  ⟨p, h.o.trans o, h.e.ob o hb, h.a.ob o (by omega)⟩
/-- an attribute, or a fault -/
def PAt (b : Nat) (r : B) (ov : Value) (g : Bool) (lv : Value) (w : World) (e : Ending) (w' : World) : Prop :=
  Ob b w w' ∧ match atr r with
  | none => e = gon 2
  | some (a, u) => e = .returned (atV a) ∧ PB b u ov g lv w'
theorem pfx1_no {q : UInt8} {y : B} (h : ([q] : B).isPrefixOf y = false) : ∀ t, y ≠ q :: t := fun t e => by rw [e, pfx1] at h; simp at h
theorem atr_eq {r nm t : B} {q : UInt8} (hn : nmS r = (nm, 61 :: q :: t)) (hN : isN nm = true) (hq : q = 34 ∨ q = 39) : atr r = (match upt [q] t with
    | some (raw, u) => if 60 ∈ raw then none else if (gone raw).2 = true then some ((nm, (gone raw).1), u) else none
    | none => none) := by
  unfold atr
  rw [hn, if_pos hN]
  simp only
  rw [if_pos hq]
  cases upt [q] t with
  | none => rfl
  | some x => rfl
theorem PAt.none {b : Nat} {r : B} {ov : Value} {g : Bool} {lv : Value} {w w' : World} (o : Ob b w w') (h : atr r = none) : PAt b r ov g lv w (gon 2) w' := ⟨o, by rw [h]⟩
theorem PAt.some {b : Nat} {r u : B} {a : Atr} {ov : Value} {g : Bool} {lv : Value} {w w' : World} (o : Ob b w w') (h : atr r = some (a, u)) (p : PB b u ov g lv w') : PAt b r ov g lv w (.returned (atV a)) w' := ⟨o, by rw [h]; exact ⟨rfl, p⟩⟩
theorem atr_noN {r : B} (h : isN (nmS r).1 = false) : atr r = none := by
  unfold atr; rw [h, if_neg (by decide)]
set_option maxRecDepth 100000 in
set_option maxHeartbeats 4000000 in
theorem pattr_any (B0 b : Nat) (r : B) (ov : Value) (g : Bool) (lv : Value) (w : World) (h : PB b r ov g lv w) (hE : EX B0 w) (hb : B0 ≤ b) (hs : r.length ≤ 100000) :
    Calls Tryz.prog 82 #[pV b] w (PAt b r ov g lv w) := by
  have hbl := h.lt
  have k0 := (Kept.refl w).alloc (.cells #[sV [], sV []] 44)
  have C0 := Lib.hid (show Cx B0 b r ov g lv w _ from ⟨h.kept k0, (Ob.refl b w).kept k0, hE.kept k0, ba_new w ([], [])⟩)
  clear h k0 hE
  go_enter Tryz.func82, Tryz.ntmps82
  go_wp2_with fail
  generalize w.alloc (.cells #[sV [], sV []] 44) = W0 at *
  refine (ptname_any b r ov g lv _ C0.out.p (by omega)).mono ?_
  rintro e w1 ⟨o1, he⟩
  cases hn : isN (nmS r).1 with
  | false =>
    rw [hn, if_neg (by decide)] at he
    subst he
    exact ⟨rfl, PAt.none (C0.out.o.trans o1) (atr_noN hn)⟩
  | true =>
    rw [hn, if_pos rfl] at he
    obtain ⟨rfl, h1⟩ := he
    have C1 := Lib.hid (C0.out.ob hb hbl o1 h1)
    have HN := Lib.hid (show nmS r = ((nmS r).1, (nmS r).2) from rfl)
    have HI := Lib.hid hn
    have hyl : (nmS r).2.length ≤ 100000 := by have := nmS_len r; omega
    clear C0 o1 h1 hn
    generalize (nmS r).1 = nm at *
    generalize (nmS r).2 = y at *
    go_wp2_with fail
    refine (pskip_any b y [61] ov g lv _ C1.out.p).mono ?_
    rintro e w2 ⟨rfl, h2, o2⟩
    cases hq : ([61] : B).isPrefixOf y with
    | false =>
      have Z := Lib.hid (show PAt b r ov g lv w (gon 2) w2 from PAt.none (C1.out.o.trans o2) (by
        unfold atr
        rw [HN.out, if_pos HI.out]
        simp only
        split
        · exact absurd rfl (pfx1_no hq _)
        · rfl))
      clear C1 h2 o2 hq
      go_wp2_with fail
      refine (need_no _).mono ?_
      rintro e w3 ⟨rfl, rfl⟩
      exact ⟨rfl, Z.out⟩
    | true =>
      obtain ⟨y1, rfl⟩ := pfx_one.1 hq
      rw [if_pos hq] at h2
      have C2 := Lib.hid (C1.out.ob hb hbl o2 h2)
      have C2 : Hid (Cx B0 b y1 ov g lv w w2) := C2
      have hyl1 : y1.length ≤ 100000 := by simp at hyl; omega
      clear C1 h2 o2 hq hyl
      go_wp2_with fail
      refine (need_yes _).mono ?_
      rintro e w3 ⟨rfl, rfl⟩
      go_wp2_with fail
      refine (pskip_any b y1 [34] ov g lv _ C2.out.p).mono ?_
      rintro e w3 ⟨rfl, h3, o3⟩
      cases hq : ([34] : B).isPrefixOf y1 with
      | true =>
        obtain ⟨t, rfl⟩ := pfx_one.1 hq
        rw [if_pos hq] at h3
        have C3 := C2.out.ob hb hbl o3 h3
        have C3 : Hid (Cx B0 b t ov g lv w w3) := Lib.hid C3
        have HA := Lib.hid (atr_eq HN.out HI.out (Or.inl rfl))
        have htl : t.length ≤ 100000 := by simp at hyl1; omega
        clear C2 h3 o3 hq hyl1 HN HI
        go_wp2_with fail
        refine (pupto_any b t [34] ov g lv _ C3.out.p C3.out.e.2.1 (by simp) (by omega)).mono ?_
        rintro e w6 ⟨o6, he⟩
        cases hu : upt [34] t with
        | none =>
          rw [hu] at he
          subst he
          exact ⟨rfl, PAt.none (C3.out.o.trans o6) (by rw [HA.out, hu])⟩
        | some x =>
          obtain ⟨raw, u⟩ := x
          rw [hu] at he
          simp only at he
          obtain ⟨rfl, h6⟩ := he
          have C6 := Lib.hid (C3.out.ob hb hbl o6 h6)
          have HB := Lib.hid (show atr r = (if 60 ∈ raw then none else if (gone raw).2 = true then some ((nm, (gone raw).1), u) else none) by rw [HA.out, hu])
          have hrl : raw.length ≤ 200000 := by
            have := congrArg List.length (upt_len (by simp) hu).2
            simp at this; omega
          clear C3 h6 o6 hu HA
          go_wp2_with fail
          refine (has60_any raw _).mono ?_
          rintro e w7 ⟨rfl, rfl⟩
          by_cases h60 : (60 : UInt8) ∈ raw
          · have Z := Lib.hid (show PAt b r ov g lv w (gon 2) w6 from PAt.none C6.out.o (by rw [HB.out, if_pos h60]))
            rw [decide_eq_true h60]
            clear C6 HB h60
            go_wp2_with fail
            refine (need_no _).mono ?_
            rintro e w7 ⟨rfl, rfl⟩
            exact ⟨rfl, Z.out⟩
          · rw [decide_eq_false h60]
            have HC := Lib.hid (show atr r = (if (gone raw).2 = true then some ((nm, (gone raw).1), u) else none) by rw [HB.out, if_neg h60])
            clear HB h60
            go_wp2_with fail
            refine (need_yes _).mono ?_
            rintro e w7 ⟨rfl, rfl⟩
            go_wp2_with fail
            refine (pdec_any raw _ C6.out.e.1 hrl).mono ?_
            rintro e w7 ⟨he, k7⟩
            cases hg : (gone raw).2 with
            | false =>
              rw [hg, if_neg (by decide)] at he
              subst he
              exact ⟨rfl, PAt.none (C6.out.o.kept k7) (by rw [HC.out, hg]; rfl)⟩
            | true =>
              rw [hg, if_pos rfl] at he
              subst he
              have HD := Lib.hid (show atr r = some ((nm, (gone raw).1), u) by rw [HC.out, hg, if_pos rfl])
              generalize (gone raw).1 = dt at *
              have A7 := C6.out.a.kept k7
              have H7 := C6.out.p.kept k7
              have O7 := C6.out.o.kept k7
              obtain ⟨y0, y1⟩ := A7.cs
              have z0 := A7.fz 0
              have z1 := A7.fz 1
              have A8 := A7.set2 (nm, dt)
              have H8 : PB b u ov g lv ((w7.setCell ⟨w.heap.size, 0, none⟩ (sV nm)).setCell ⟨w.heap.size, 1, none⟩ (sV dt)) := (Below.heap_setCell _ _ _ _ (by show b ≠ w.heap.size; omega)).trans ((Below.heap_setCell _ _ _ _ (by show b ≠ w.heap.size; omega)).trans H7)
              have O8 := (O7.setNew (Nat.le_refl _) 0 (sV nm)).setNew (Nat.le_refl _) 1 (sV dt)
              have Z := Lib.hid (And.intro A8 (PAt.some O8 HD.out H8))
              clear A7 H7 O7 A8 H8 O8 C6 HC HD hg k7
              go_wp2
              exact bodyPost_ret (v := atV (nm, dt)) (results_cell_row Tryz.results82 _ _ w.heap.size 44 _ (0, 0) _ rfl Z.out.1 Tryz.underlying44 rfl (by kernel_rfl)) rfl Z.out.2
      | false =>
        rw [if_neg (by rw [hq]; decide)] at h3
        have C3 := Lib.hid (C2.out.ob hb hbl o3 h3)
        have HQ := Lib.hid hq
        clear C2 h3 o3 hq
        go_wp2_with fail
        refine (pskip_any b y1 [39] ov g lv _ C3.out.p).mono ?_
        rintro e w4 ⟨rfl, h4, o4⟩
        cases hq : ([39] : B).isPrefixOf y1 with
        | false =>
          have Z := Lib.hid (show PAt b r ov g lv w (gon 2) w4 from PAt.none (C3.out.o.trans o4) (atr_no (fun q t e => by
            rw [HN.out] at e
            simp only [List.cons.injEq, true_and] at e
            rintro (rfl | rfl)
            · exact pfx1_no HQ.out _ e
            · exact pfx1_no hq _ e)))
          clear C3 h4 o4 hq
          go_wp2_with fail
          refine (need_no _).mono ?_
          rintro e w5 ⟨rfl, rfl⟩
          exact ⟨rfl, Z.out⟩
        | true =>
          obtain ⟨t, rfl⟩ := pfx_one.1 hq
          rw [if_pos hq] at h4
          have C4 := C3.out.ob hb hbl o4 h4
          clear C3
          have C3 : Hid (Cx B0 b t ov g lv w w4) := Lib.hid C4
          have HA := Lib.hid (atr_eq HN.out HI.out (Or.inr rfl))
          have htl : t.length ≤ 100000 := by simp at hyl1; omega
          clear C4 h4 o4 hq hyl1 HN HI HQ
          go_wp2_with fail
          refine (need_yes _).mono ?_
          rintro e w5 ⟨rfl, rfl⟩
          go_wp2_with fail
          refine (pupto_any b t [39] ov g lv _ C3.out.p C3.out.e.2.1 (by simp) (by omega)).mono ?_
          rintro e w6 ⟨o6, he⟩
          cases hu : upt [39] t with
          | none =>
            rw [hu] at he
            subst he
            exact ⟨rfl, PAt.none (C3.out.o.trans o6) (by rw [HA.out, hu])⟩
          | some x =>
            obtain ⟨raw, u⟩ := x
            rw [hu] at he
            simp only at he
            obtain ⟨rfl, h6⟩ := he
            have C6 := Lib.hid (C3.out.ob hb hbl o6 h6)
            have HB := Lib.hid (show atr r = (if 60 ∈ raw then none else if (gone raw).2 = true then some ((nm, (gone raw).1), u) else none) by rw [HA.out, hu])
            have hrl : raw.length ≤ 200000 := by
              have := congrArg List.length (upt_len (by simp) hu).2
              simp at this; omega
            clear C3 h6 o6 hu HA
            go_wp2_with fail
            refine (has60_any raw _).mono ?_
            rintro e w7 ⟨rfl, rfl⟩
            by_cases h60 : (60 : UInt8) ∈ raw
            · have Z := Lib.hid (show PAt b r ov g lv w (gon 2) w6 from PAt.none C6.out.o (by rw [HB.out, if_pos h60]))
              rw [decide_eq_true h60]
              clear C6 HB h60
              go_wp2_with fail
              refine (need_no _).mono ?_
              rintro e w7 ⟨rfl, rfl⟩
              exact ⟨rfl, Z.out⟩
            · rw [decide_eq_false h60]
              have HC := Lib.hid (show atr r = (if (gone raw).2 = true then some ((nm, (gone raw).1), u) else none) by rw [HB.out, if_neg h60])
              clear HB h60
              go_wp2_with fail
              refine (need_yes _).mono ?_
              rintro e w7 ⟨rfl, rfl⟩
              go_wp2_with fail
              refine (pdec_any raw _ C6.out.e.1 hrl).mono ?_
              rintro e w7 ⟨he, k7⟩
              cases hg : (gone raw).2 with
              | false =>
                rw [hg, if_neg (by decide)] at he
                subst he
                exact ⟨rfl, PAt.none (C6.out.o.kept k7) (by rw [HC.out, hg]; rfl)⟩
              | true =>
                rw [hg, if_pos rfl] at he
                subst he
                have HD := Lib.hid (show atr r = some ((nm, (gone raw).1), u) by rw [HC.out, hg, if_pos rfl])
                generalize (gone raw).1 = dt at *
                have A7 := C6.out.a.kept k7
                have H7 := C6.out.p.kept k7
                have O7 := C6.out.o.kept k7
                obtain ⟨y0, y1⟩ := A7.cs
                have z0 := A7.fz 0
                have z1 := A7.fz 1
                have A8 := A7.set2 (nm, dt)
                have H8 : PB b u ov g lv ((w7.setCell ⟨w.heap.size, 0, none⟩ (sV nm)).setCell ⟨w.heap.size, 1, none⟩ (sV dt)) := (Below.heap_setCell _ _ _ _ (by show b ≠ w.heap.size; omega)).trans ((Below.heap_setCell _ _ _ _ (by show b ≠ w.heap.size; omega)).trans H7)
                have O8 := (O7.setNew (Nat.le_refl _) 0 (sV nm)).setNew (Nat.le_refl _) 1 (sV dt)
                have Z := Lib.hid (And.intro A8 (PAt.some O8 HD.out H8))
                clear A7 H7 O7 A8 H8 O8 C6 HC HD hg k7
                go_wp2
                exact bodyPost_ret (v := atV (nm, dt)) (results_cell_row Tryz.results82 _ _ w.heap.size 44 _ (0, 0) _ rfl Z.out.1 Tryz.underlying44 rfl (by kernel_rfl)) rfl Z.out.2
end Go.Proofs.YtknggeplnffegaaGreatDoor
