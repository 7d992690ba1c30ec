/- Several texts of this seat, one behind the other. -/
import Derived.Test.YtflhmgnhjnaiiaaGreatDoorXpQ
import Derived.Test.YtflhmgnhjnaiiaaGreatDoorEnQ
import Derived.Maps.AppendAt
import Derived.Laws.AppendOwnNone
import Derived.Deep.CutBlock
import Derived.Deep.CutRange
set_option linter.unusedSimpArgs false
/- Package xml: an attribute. -/
set_option linter.unusedVariables false
namespace Go.Proofs.YtflhmgnhjnaiiaaGreatDoor
open Go.ChangeShapes Go.WideShapes Go.ChangeAt Go.RowKit
open En Xm
theorem Ob.yes {b : Nat} {w w' : World} (o : Ob b w w') {a : Addr} {v : Value} (h : w.cell? a = some v) (hne : a.block ≠ b) : w'.cell? a = some v := by
  have hb := o.block a.block (cell_lt h) hne
  unfold World.cell? at h ⊢
  rw [hb]; exact h
theorem Below.yes {B : Nat} {w w' : World} (k : Below B w w') {a : Addr} {v : Value} (h : w.cell? a = some v) (hlt : a.block < B) : w'.cell? a = some v := by
  have hb := k.block a.block hlt
  unfold World.cell? at h ⊢
  rw [hb]; exact h
/-- what the code needs of a world; what lies below stays -/
def EX (B0 : Nat) (w : World) : Prop := Env w ∧ Mx w ∧ ∀ j ∈ [0, 1, 3, 2], j < B0
theorem EX.by {B0 : Nat} {w w' : World} (h : EX B0 w) (k : ∀ (a : Addr) (v : Value), a.block < B0 → w.cell? a = some v → w'.cell? a = some v) : EX B0 w' := by
  obtain ⟨⟨⟨h1, h2⟩, ev, h3, h4⟩, ⟨m, h5⟩, h6⟩ := h
  have g1 := h6 0 (by simp)
  have g2 := h6 1 (by simp)
  have g3 := h6 3 (by simp)
  have g4 := h6 2 (by simp)
  exact ⟨⟨⟨fun c hc => k _ _ g1 (h1 c hc), fun i hi => ⟨k _ _ g2 (h2 i hi).1, k _ _ g2 (h2 i hi).2⟩⟩, ev, k _ _ g3 h3, h4⟩, ⟨m, k _ _ g4 h5⟩, h6⟩
theorem EX.ob {B0 b : Nat} {w w' : World} (h : EX B0 w) (o : Ob b w w') (hb : B0 ≤ b) : EX B0 w' := h.by fun a v ha hv => o.yes hv (by omega)
theorem EX.kept {B0 : Nat} {w w' : World} (h : EX B0 w) (k : Kept w w') : EX B0 w' := h.by fun a v ha hv => k.yes hv
theorem EX.below {B0 : Nat} {w w' : World} (h : EX B0 w) (k : Below B0 w w') : EX B0 w' := h.by fun a v ha hv => Below.yes k hv ha
theorem EX.mono {B0 B1 : Nat} {w : World} (h : EX B0 w) (hb : B0 ≤ B1) : EX B1 w := ⟨h.1, h.2.1, fun j hj => Nat.lt_of_lt_of_le (h.2.2 j hj) hb⟩
def PDe (t : B) (w : World) (e : Ending) (w' : World) : Prop := e = (if (gone t).2 = true then .returned (sV (gone t).1) else gon 2) ∧ Kept w w'
theorem pdec_any (t : B) (w : World) (hE : Env w) (hl : t.length ≤ 200000) : Calls Tryz.prog 62 #[sV t] w (PDe t w) := by
  go_enter Tryz.func62, Tryz.ntmps62
  go_wp2_with fail
  refine (decode_any t _ hE hl).mono ?_
  rintro e w1 ⟨rfl, k1⟩
  cases hg : (gone t).2 with
  | true =>
    rw [deT_ok hg, deE_of hg]
    have HG := Lib.hid hg
    clear hg
    go_wp2_with fail
    refine (need_yes _).mono ?_
    rintro e w2 ⟨rfl, rfl⟩
    go_wp2
    go_ret
    exact ⟨by rw [if_pos HG.out]; rfl, k1⟩
  | false =>
    rw [show deE t = 2 by unfold deE; rw [hg]; rfl]
    have HG := Lib.hid hg
    clear hg
    go_wp2_with fail
    refine (need_no _).mono ?_
    rintro e w2 ⟨rfl, rfl⟩
    exact ⟨rfl, by rw [HG.out]; rfl, k1⟩
/-- within the reading of an attribute -/
structure Cx (B0 b : Nat) (r : B) (ov : Value) (g : Bool) (lv : Value) (w0 w : World) : Prop where
  p : PB b r ov g lv w
  o : Ob b w0 w
  e : EX B0 w
  a : Ba w0.heap.size ([], []) w
theorem Cx.ob {B0 b : Nat} {r r' : B} {ov : Value} {g : Bool} {lv : Value} {w0 w w' : World} (h : Cx B0 b r ov g lv w0 w) (hb : B0 ≤ b) (hl : b < w0.heap.size) (o : Ob b w w') (p : PB b r' ov g lv w') : Cx B0 b r' ov g lv w0 w' :=
  ⟨p, h.o.trans o, h.e.ob o hb, h.a.ob o (by omega)⟩
/-- an attribute, or a fault -/
def PAt (b : Nat) (r : B) (ov : Value) (g : Bool) (lv : Value) (w : World) (e : Ending) (w' : World) : Prop :=
  Ob b w w' ∧ match atr r with
  | none => e = gon 2
  | some (a, u) => e = .returned (atV a) ∧ PB b u ov g lv w'
theorem pfx1_no {q : UInt8} {y : B} (h : ([q] : B).isPrefixOf y = false) : ∀ t, y ≠ q :: t := fun t e => by rw [e, pfx1] at h; simp at h
theorem atr_eq {r nm t : B} {q : UInt8} (hn : nmS r = (nm, 61 :: q :: t)) (hN : isN nm = true) (hq : q = 34 ∨ q = 39) : atr r = (match upt [q] t with
    | some (raw, u) => if 60 ∈ raw then none else if (gone raw).2 = true then some ((nm, (gone raw).1), u) else none
    | none => none) := by
  unfold atr
  rw [hn, if_pos hN]
  simp only
  rw [if_pos hq]
  cases upt [q] t with
  | none => rfl
  | some x => rfl
theorem PAt.none {b : Nat} {r : B} {ov : Value} {g : Bool} {lv : Value} {w w' : World} (o : Ob b w w') (h : atr r = none) : PAt b r ov g lv w (gon 2) w' := ⟨o, by rw [h]⟩
theorem PAt.some {b : Nat} {r u : B} {a : Atr} {ov : Value} {g : Bool} {lv : Value} {w w' : World} (o : Ob b w w') (h : atr r = some (a, u)) (p : PB b u ov g lv w') : PAt b r ov g lv w (.returned (atV a)) w' := ⟨o, by rw [h]; exact ⟨rfl, p⟩⟩
theorem atr_noN {r : B} (h : isN (nmS r).1 = false) : atr r = none := by
  unfold atr; rw [h, if_neg (by decide)]
set_option maxRecDepth 100000 in
set_option maxHeartbeats 4000000 in
theorem pattr_any (B0 b : Nat) (r : B) (ov : Value) (g : Bool) (lv : Value) (w : World) (h : PB b r ov g lv w) (hE : EX B0 w) (hb : B0 ≤ b) (hs : r.length ≤ 100000) :
    Calls Tryz.prog 72 #[pV b] w (PAt b r ov g lv w) := by
  have hbl := h.lt
  have k0 := (Kept.refl w).alloc (.cells #[sV [], sV []] 120)
  have C0 := Lib.hid (show Cx B0 b r ov g lv w _ from ⟨h.kept k0, (Ob.refl b w).kept k0, hE.kept k0, ba_new w ([], [])⟩)
  clear h k0 hE
  go_enter Tryz.func72, Tryz.ntmps72
  go_wp2_with fail
  generalize w.alloc (.cells #[sV [], sV []] 120) = W0 at *
  refine (ptname_any b r ov g lv _ C0.out.p (by omega)).mono ?_
  rintro e w1 ⟨o1, he⟩
  cases hn : isN (nmS r).1 with
  | false =>
    rw [hn, if_neg (by decide)] at he
    subst he
    exact ⟨rfl, PAt.none (C0.out.o.trans o1) (atr_noN hn)⟩
  | true =>
    rw [hn, if_pos rfl] at he
    obtain ⟨rfl, h1⟩ := he
    have C1 := Lib.hid (C0.out.ob hb hbl o1 h1)
    have HN := Lib.hid (show nmS r = ((nmS r).1, (nmS r).2) from rfl)
    have HI := Lib.hid hn
    have hyl : (nmS r).2.length ≤ 100000 := by have := nmS_len r; omega
    clear C0 o1 h1 hn
    generalize (nmS r).1 = nm at *
    generalize (nmS r).2 = y at *
    go_wp2_with fail
    refine (pskip_any b y [61] ov g lv _ C1.out.p).mono ?_
    rintro e w2 ⟨rfl, h2, o2⟩
    cases hq : ([61] : B).isPrefixOf y with
    | false =>
      have Z := Lib.hid (show PAt b r ov g lv w (gon 2) w2 from PAt.none (C1.out.o.trans o2) (by
        unfold atr
        rw [HN.out, if_pos HI.out]
        simp only
        split
        · exact absurd rfl (pfx1_no hq _)
        · rfl))
      clear C1 h2 o2 hq
      go_wp2_with fail
      refine (need_no _).mono ?_
      rintro e w3 ⟨rfl, rfl⟩
      exact ⟨rfl, Z.out⟩
    | true =>
      obtain ⟨y1, rfl⟩ := pfx_one.1 hq
      rw [if_pos hq] at h2
      have C2 := Lib.hid (C1.out.ob hb hbl o2 h2)
      have C2 : Hid (Cx B0 b y1 ov g lv w w2) := C2
      have hyl1 : y1.length ≤ 100000 := by simp at hyl; omega
      clear C1 h2 o2 hq hyl
      go_wp2_with fail
      refine (need_yes _).mono ?_
      rintro e w3 ⟨rfl, rfl⟩
      go_wp2_with fail
      refine (pskip_any b y1 [34] ov g lv _ C2.out.p).mono ?_
      rintro e w3 ⟨rfl, h3, o3⟩
      cases hq : ([34] : B).isPrefixOf y1 with
      | true =>
        obtain ⟨t, rfl⟩ := pfx_one.1 hq
        rw [if_pos hq] at h3
        have C3 := C2.out.ob hb hbl o3 h3
        have C3 : Hid (Cx B0 b t ov g lv w w3) := Lib.hid C3
        have HA := Lib.hid (atr_eq HN.out HI.out (Or.inl rfl))
        have htl : t.length ≤ 100000 := by simp at hyl1; omega
        clear C2 h3 o3 hq hyl1 HN HI
        go_wp2_with fail
        refine (pupto_any b t [34] ov g lv _ C3.out.p C3.out.e.2.1 (by simp) (by omega)).mono ?_
        rintro e w6 ⟨o6, he⟩
        cases hu : upt [34] t with
        | none =>
          rw [hu] at he
          subst he
          exact ⟨rfl, PAt.none (C3.out.o.trans o6) (by rw [HA.out, hu])⟩
        | some x =>
          obtain ⟨raw, u⟩ := x
          rw [hu] at he
          simp only at he
          obtain ⟨rfl, h6⟩ := he
          have C6 := Lib.hid (C3.out.ob hb hbl o6 h6)
          have HB := Lib.hid (show atr r = (if 60 ∈ raw then none else if (gone raw).2 = true then some ((nm, (gone raw).1), u) else none) by rw [HA.out, hu])
          have hrl : raw.length ≤ 200000 := by
            have := congrArg List.length (upt_len (by simp) hu).2
            simp at this; omega
          clear C3 h6 o6 hu HA
          go_wp2_with fail
          refine (has60_any raw _).mono ?_
          rintro e w7 ⟨rfl, rfl⟩
          by_cases h60 : (60 : UInt8) ∈ raw
          · have Z := Lib.hid (show PAt b r ov g lv w (gon 2) w6 from PAt.none C6.out.o (by rw [HB.out, if_pos h60]))
            rw [decide_eq_true h60]
            clear C6 HB h60
            go_wp2_with fail
            refine (need_no _).mono ?_
            rintro e w7 ⟨rfl, rfl⟩
            exact ⟨rfl, Z.out⟩
          · rw [decide_eq_false h60]
            have HC := Lib.hid (show atr r = (if (gone raw).2 = true then some ((nm, (gone raw).1), u) else none) by rw [HB.out, if_neg h60])
            clear HB h60
            go_wp2_with fail
            refine (need_yes _).mono ?_
            rintro e w7 ⟨rfl, rfl⟩
            go_wp2_with fail
            refine (pdec_any raw _ C6.out.e.1 hrl).mono ?_
            rintro e w7 ⟨he, k7⟩
            cases hg : (gone raw).2 with
            | false =>
              rw [hg, if_neg (by decide)] at he
              subst he
              exact ⟨rfl, PAt.none (C6.out.o.kept k7) (by rw [HC.out, hg]; rfl)⟩
            | true =>
              rw [hg, if_pos rfl] at he
              subst he
              have HD := Lib.hid (show atr r = some ((nm, (gone raw).1), u) by rw [HC.out, hg, if_pos rfl])
              generalize (gone raw).1 = dt at *
              have A7 := C6.out.a.kept k7
              have H7 := C6.out.p.kept k7
              have O7 := C6.out.o.kept k7
              obtain ⟨y0, y1⟩ := A7.cs
              have z0 := A7.fz 0
              have z1 := A7.fz 1
              have A8 := A7.set2 (nm, dt)
              have H8 : PB b u ov g lv ((w7.setCell ⟨w.heap.size, 0, none⟩ (sV nm)).setCell ⟨w.heap.size, 1, none⟩ (sV dt)) := (Below.heap_setCell _ _ _ _ (by show b ≠ w.heap.size; omega)).trans ((Below.heap_setCell _ _ _ _ (by show b ≠ w.heap.size; omega)).trans H7)
              have O8 := (O7.setNew (Nat.le_refl _) 0 (sV nm)).setNew (Nat.le_refl _) 1 (sV dt)
              have Z := Lib.hid (And.intro A8 (PAt.some O8 HD.out H8))
              clear A7 H7 O7 A8 H8 O8 C6 HC HD hg k7
              go_wp2
              exact bodyPost_ret (v := atV (nm, dt)) (results_cell_row Tryz.results72 _ _ w.heap.size 120 _ (0, 0) _ rfl Z.out.1 Tryz.underlying120 rfl (by kernel_rfl)) rfl Z.out.2
      | false =>
        rw [if_neg (by rw [hq]; decide)] at h3
        have C3 := Lib.hid (C2.out.ob hb hbl o3 h3)
        have HQ := Lib.hid hq
        clear C2 h3 o3 hq
        go_wp2_with fail
        refine (pskip_any b y1 [39] ov g lv _ C3.out.p).mono ?_
        rintro e w4 ⟨rfl, h4, o4⟩
        cases hq : ([39] : B).isPrefixOf y1 with
        | false =>
          have Z := Lib.hid (show PAt b r ov g lv w (gon 2) w4 from PAt.none (C3.out.o.trans o4) (atr_no (fun q t e => by
            rw [HN.out] at e
            simp only [List.cons.injEq, true_and] at e
            rintro (rfl | rfl)
            · exact pfx1_no HQ.out _ e
            · exact pfx1_no hq _ e)))
          clear C3 h4 o4 hq
          go_wp2_with fail
          refine (need_no _).mono ?_
          rintro e w5 ⟨rfl, rfl⟩
          exact ⟨rfl, Z.out⟩
        | true =>
          obtain ⟨t, rfl⟩ := pfx_one.1 hq
          rw [if_pos hq] at h4
          have C4 := C3.out.ob hb hbl o4 h4
          clear C3
          have C3 : Hid (Cx B0 b t ov g lv w w4) := Lib.hid C4
          have HA := Lib.hid (atr_eq HN.out HI.out (Or.inr rfl))
          have htl : t.length ≤ 100000 := by simp at hyl1; omega
          clear C4 h4 o4 hq hyl1 HN HI HQ
          go_wp2_with fail
          refine (need_yes _).mono ?_
          rintro e w5 ⟨rfl, rfl⟩
          go_wp2_with fail
          refine (pupto_any b t [39] ov g lv _ C3.out.p C3.out.e.2.1 (by simp) (by omega)).mono ?_
          rintro e w6 ⟨o6, he⟩
          cases hu : upt [39] t with
          | none =>
            rw [hu] at he
            subst he
            exact ⟨rfl, PAt.none (C3.out.o.trans o6) (by rw [HA.out, hu])⟩
          | some x =>
            obtain ⟨raw, u⟩ := x
            rw [hu] at he
            simp only at he
            obtain ⟨rfl, h6⟩ := he
            have C6 := Lib.hid (C3.out.ob hb hbl o6 h6)
            have HB := Lib.hid (show atr r = (if 60 ∈ raw then none else if (gone raw).2 = true then some ((nm, (gone raw).1), u) else none) by rw [HA.out, hu])
            have hrl : raw.length ≤ 200000 := by
              have := congrArg List.length (upt_len (by simp) hu).2
              simp at this; omega
            clear C3 h6 o6 hu HA
            go_wp2_with fail
            refine (has60_any raw _).mono ?_
            rintro e w7 ⟨rfl, rfl⟩
            by_cases h60 : (60 : UInt8) ∈ raw
            · have Z := Lib.hid (show PAt b r ov g lv w (gon 2) w6 from PAt.none C6.out.o (by rw [HB.out, if_pos h60]))
              rw [decide_eq_true h60]
              clear C6 HB h60
              go_wp2_with fail
              refine (need_no _).mono ?_
              rintro e w7 ⟨rfl, rfl⟩
              exact ⟨rfl, Z.out⟩
            · rw [decide_eq_false h60]
              have HC := Lib.hid (show atr r = (if (gone raw).2 = true then some ((nm, (gone raw).1), u) else none) by rw [HB.out, if_neg h60])
              clear HB h60
              go_wp2_with fail
              refine (need_yes _).mono ?_
              rintro e w7 ⟨rfl, rfl⟩
              go_wp2_with fail
              refine (pdec_any raw _ C6.out.e.1 hrl).mono ?_
              rintro e w7 ⟨he, k7⟩
              cases hg : (gone raw).2 with
              | false =>
                rw [hg, if_neg (by decide)] at he
                subst he
                exact ⟨rfl, PAt.none (C6.out.o.kept k7) (by rw [HC.out, hg]; rfl)⟩
              | true =>
                rw [hg, if_pos rfl] at he
                subst he
                have HD := Lib.hid (show atr r = some ((nm, (gone raw).1), u) by rw [HC.out, hg, if_pos rfl])
                generalize (gone raw).1 = dt at *
                have A7 := C6.out.a.kept k7
                have H7 := C6.out.p.kept k7
                have O7 := C6.out.o.kept k7
                obtain ⟨y0, y1⟩ := A7.cs
                have z0 := A7.fz 0
                have z1 := A7.fz 1
                have A8 := A7.set2 (nm, dt)
                have H8 : PB b u ov g lv ((w7.setCell ⟨w.heap.size, 0, none⟩ (sV nm)).setCell ⟨w.heap.size, 1, none⟩ (sV dt)) := (Below.heap_setCell _ _ _ _ (by show b ≠ w.heap.size; omega)).trans ((Below.heap_setCell _ _ _ _ (by show b ≠ w.heap.size; omega)).trans H7)
                have O8 := (O7.setNew (Nat.le_refl _) 0 (sV nm)).setNew (Nat.le_refl _) 1 (sV dt)
                have Z := Lib.hid (And.intro A8 (PAt.some O8 HD.out H8))
                clear A7 H7 O7 A8 H8 O8 C6 HC HD hg k7
                go_wp2
                exact bodyPost_ret (v := atV (nm, dt)) (results_cell_row Tryz.results72 _ _ w.heap.size 120 _ (0, 0) _ rfl Z.out.1 Tryz.underlying120 rfl (by kernel_rfl)) rfl Z.out.2
end Go.Proofs.YtflhmgnhjnaiiaaGreatDoor
/- Package xml: an element's attributes, in a slice of the call's own, their names known by a map. -/
set_option linter.unusedVariables false
namespace Go.Proofs.YtflhmgnhjnaiiaaGreatDoor
open Go.ChangeShapes Go.WideShapes Go.ChangeAt Go.RowKit
open En Xm
/-- a set of texts as a map: in order, each born at its place -/
def mpE : Nat → List B → List MapEntry
  | _, [] => []
  | i, k :: l => { key := sV k, val := .agg #[], born := i } :: mpE (i + 1) l
theorem mpE_snoc : ∀ (l : List B) (i : Nat) (x : B), mpE i (l ++ [x]) = mpE i l ++ [{ key := sV x, val := .agg #[], born := i + l.length }]
  | [], i, x => rfl
  | k :: l, i, x => by
    rw [List.cons_append, mpE, mpE, mpE_snoc l (i + 1) x, List.length_cons, show i + 1 + l.length = i + (l.length + 1) by omega]; rfl
theorem mpE_find (x : B) : ∀ (l : List B) (i j : Nat), ∃ r, Instr.findNow .string (sV x) (mpE i l) j = some r ∧ r.isSome = l.contains x ∧ ∀ p, r = some p → p.2 = .agg #[]
  | [], i, j => ⟨none, rfl, rfl, fun p h => by cases h⟩
  | k :: l, i, j => by
    rw [mpE]
    simp only [Instr.findNow, Instr.sameNow, ba_beq]
    by_cases q : x = k
    · subst q
      exact ⟨some (j, .agg #[]), by simp, by simp, fun p h => by cases h; rfl⟩
    · obtain ⟨r, h1, h2, h3⟩ := mpE_find x l (i + 1) (j + 1)
      refine ⟨r, by simp only [q, decide_false]; exact h1, ?_, h3⟩
      rw [h2]
      rw [List.contains_cons, show (x == k) = false by simpa using q, Bool.false_or]
def Mp (k : Nat) (l : List B) (w : World) : Prop := w.heap[k]? = some (.map (mpE 0 l).toArray l.length)
theorem Mp.lt {k : Nat} {l : List B} {w : World} (h : Mp k l w) : k < w.heap.size := (Array.getElem?_eq_some_iff.1 h).1
theorem Mp.kept {k : Nat} {l : List B} {w w' : World} (h : Mp k l w) (o : Kept w w') : Mp k l w' := (o.block k h.lt).trans h
theorem Mp.ob {k b : Nat} {l : List B} {w w' : World} (h : Mp k l w) (o : Ob b w w') (hne : k ≠ b) : Mp k l w' := (o.block k h.lt hne).trans h
theorem Mp.grow {k : Nat} {l : List B} {w w' : World} {row : Option Nat} (h : Mp k l w) (hg : w.grownBy w' row) (hr : ∀ r, row = some r → ∃ c e, w.heap[r]? = some (.cells c e (0, 0))) : Mp k l w' := (hg.block k h.lt (fun e' => by
  obtain ⟨c, e, hc⟩ := hr k e'.symm
  unfold Mp at h
  rw [h] at hc; cases hc)).trans h
theorem mp_new (w : World) : Mp w.heap.size [] (w.alloc (.map #[] 0)) := by
  show (w.heap.push _)[w.heap.size]? = _
  simp; rfl
theorem zero98 (w : World) : (zeroValue 85).run Tryz.prog w = .ok (.agg #[]) w := by kernel_rfl
theorem mp_look {k : Nat} {l : List B} {w : World} (h : Mp k l w) (x : B) :
    (Instr.lookup 118 (.map (some k)) (sV x) true).run Tryz.prog w = .ok (.tuple #[.agg #[], .bool (l.contains x)]) w := by
  obtain ⟨r, h1, h2, h3⟩ := mpE_find x l 0 0
  unfold Instr.lookup
  simp only [Sem.run_bind, run_underlying Tryz.underlying118, Result.andThen, MapKept.run_getObj_map h, Sem.run_pure]
  rw [MapKept.run_checkKey Tryz.underlying9 (by simp [MapKept.IsKey]) _ 9999]
  simp only [MapKept.run_findKey Tryz.underlying9 h1]
  cases r with
  | none =>
    rw [← h2]
    simp
  | some p =>
    obtain ⟨i, v⟩ := p
    have := h3 _ rfl
    simp only at this
    subst this
    rw [← h2]
    simp
theorem mp_put {k : Nat} {l : List B} {w : World} (h : Mp k l w) (x : B) (hx : l.contains x = false) (n : Nat) (hn : n = l.length + 1) :
    (Instr.mapUpdate 118 (.map (some k)) (sV x) (.agg #[])).run Tryz.prog w = .ok () { w with heap := w.heap.setIfInBounds k (.map (mpE 0 (l ++ [x])).toArray n) } := by
  obtain ⟨r, h1, h2, h3⟩ := mpE_find x l 0 0
  rw [hx] at h2
  have hr : r = none := by cases r with
    | none => rfl
    | some p => cases h2
  subst hr
  subst hn
  unfold Instr.mapUpdate
  simp only [Sem.run_bind, run_underlying Tryz.underlying118, Result.andThen, MapKept.run_getObj_map h]
  rw [MapKept.run_checkKey Tryz.underlying9 (by simp [MapKept.IsKey]) false 9999]
  simp only [MapKept.run_findKey Tryz.underlying9 h1]
  rw [MapKept.run_setObj_map _ h, mpE_snoc]
  simp
theorem mp_set {k : Nat} {l : List B} {w : World} (h : Mp k l w) (l' : List B) (n : Nat) (hn : n = l'.length) : Mp k l' { w with heap := w.heap.setIfInBounds k (.map (mpE 0 l').toArray n) } := by
  subst hn
  have := h.lt
  unfold Mp
  simp [this]
theorem set_block (w : World) (k : Nat) (o : Obj) {j : Nat} (h : j ≠ k) : ({ w with heap := w.heap.setIfInBounds k o } : World).heap[j]? = w.heap[j]? := by
  show (w.heap.setIfInBounds k o)[j]? = _
  rw [Array.getElem?_setIfInBounds_ne (fun e => h e.symm)]
/-- attributes, or a fault -/
def PAs (b : Nat) (r : B) (ov : Value) (g : Bool) (lv : Value) (w : World) (e : Ending) (w' : World) : Prop :=
  Ob b w w' ∧ match patrs (r.length + 1) r [] with
  | none => e = gon 2
  | some (al, u) => ∃ v, e = .returned v ∧ AtsO w.heap.size v al w' ∧ PB b u ov g lv w'
theorem PAs.none {b : Nat} {r : B} {ov : Value} {g : Bool} {lv : Value} {w w' : World} (o : Ob b w w') (h : patrs (r.length + 1) r [] = none) : PAs b r ov g lv w (gon 2) w' := ⟨o, by rw [h]⟩
theorem PAs.some {b : Nat} {r u : B} {al : List Atr} {ov : Value} {g : Bool} {lv v : Value} {w w' : World} (o : Ob b w w') (h : patrs (r.length + 1) r [] = some (al, u)) (hv : AtsO w.heap.size v al w') (p : PB b u ov g lv w') : PAs b r ov g lv w (.returned v) w' := ⟨o, by rw [h]; exact ⟨v, rfl, hv, p⟩⟩
def strN : Value → Nat
  | .string s => s.size
  | _ => 0
theorem strN_sV (s : B) : strN (sV s) = s.length := List.size_toArray
/-- within the attributes' loop -/
structure Ax (B0 b : Nat) (r0 r : B) (ov : Value) (g : Bool) (lv xa : Value) (acc : List Atr) (w0 w : World) : Prop where
  p : PB b r ov g lv w
  o : Ob b w0 w
  e : EX B0 w
  m : Mp w0.heap.size (acc.map (·.1)) w
  a : AtsO w0.heap.size xa acc w
  f : ∃ f, r.length < f ∧ patrs (r0.length + 1) r0 [] = patrs f r acc
  l : r.length ≤ r0.length ∧ acc.length + r.length ≤ r0.length
theorem pb_noA {b : Nat} {r : B} {ov : Value} {g : Bool} {lv : Value} {w : World} (h : PB b r ov g lv w) : ∀ c, w.heap[b]? ≠ some (.cells c 120 (0, 0)) := fun c hc => by
  unfold PB at h
  rw [h] at hc
  cases hc
theorem grown_set (w : World) (k : Nat) (o : Obj) : w.grownBy ({ w with heap := w.heap.setIfInBounds k o } : World) (some k) :=
  ⟨rfl, rfl, rfl, by show w.heap.size ≤ (w.heap.setIfInBounds k o).size; simp, fun j hj hne => set_block w k o (fun e => hne (by rw [e]))⟩
theorem size_set (w : World) (k : Nat) (o : Obj) : ({ w with heap := w.heap.setIfInBounds k o } : World).heap.size = w.heap.size := by
  show (w.heap.setIfInBounds k o).size = _
  simp
set_option maxRecDepth 100000 in
set_option maxHeartbeats 4000000 in
theorem pattrs_any (B0 b : Nat) (r0 : B) (ov : Value) (g : Bool) (lv : Value) (w : World) (h : PB b r0 ov g lv w) (hE : EX B0 w) (hb : B0 ≤ b) (hs : r0.length ≤ 100000) :
    Calls Tryz.prog 59 #[pV b] w (PAs b r0 ov g lv w) := by
  have hbl := h.lt
  have hmm := @run_makeMap Tryz.prog
  have k0 := (Kept.refl w).alloc (.map #[] 0)
  have C0 := Lib.hid (show Ax B0 b r0 r0 ov g lv (.slice none 0 0) [] w _ from ⟨h.kept k0, (Ob.refl b w).kept k0, hE.kept k0, mp_new w, AtsO.nil _ _, ⟨_, Nat.lt_succ_self _, rfl⟩, Nat.le_refl _, by simp⟩)
  clear h k0 hE
  go_enter Tryz.func59, Tryz.ntmps59
  go_wp2_with fail
  generalize w.alloc (.map #[] 0) = W0 at *
  go_loopw [3] (fun xa wr => ∃ (r : B) (acc : List Atr), Hid (Ax B0 b r0 r ov g lv xa acc w wr)) (fun _ wr => strN ((wr.cell? ⟨b, 0, none⟩).getD undef))
  case atStart => exact ⟨r0, [], C0⟩
  case round =>
    obtain ⟨r, acc, hA⟩ := hrel
    clear C0 W0
    have hmes : strN ((wr.cell? ⟨b, 0, none⟩).getD undef) = r.length := by rw [hA.out.p.cs.1]; exact strN_sV r
    have hrl : r.length ≤ 100000 := Nat.le_trans hA.out.l.1 hs
    go_wp2_with fail
    refine (pblanks_any b r ov g lv _ hA.out.p (by omega)).mono ?_
    rintro e w1 ⟨rfl, p1, o1⟩
    have hkl := skip_len r
    have A1 := Lib.hid (And.intro p1 (And.intro (hA.out.o.trans o1) (And.intro (hA.out.e.ob o1 hb) (And.intro (hA.out.m.ob o1 (by omega)) (hA.out.a.ob o1 (pb_noA hA.out.p))))))
    obtain ⟨f, hf, hP⟩ := hA.out.f
    have hP2 : patrs (r0.length + 1) r0 [] = if (skip r).length = r.length ∨ mEnd (skip r) = true then some (acc, skip r)
        else match atr (skip r) with
          | none => none
          | some (a, u) => if (acc.map (·.1)).contains a.1 = true then none else patrs (f - 1) u (acc ++ [a]) := by
      rw [hP]
      obtain ⟨f', rfl⟩ : ∃ f', f = f' + 1 := ⟨f - 1, by omega⟩
      rw [patrs]; rfl
    have HP := Lib.hid hP2
    have HL := Lib.hid hA.out.l
    clear p1 o1 hP hP2 hA
    by_cases hq : (skip r).length < r.length
    · rw [decide_eq_true hq]
      go_wp2_with fail
      refine (ptag_any b (skip r) ov g lv _ A1.out.1).mono ?_
      rintro e w2 ⟨rfl, rfl⟩
      cases hm : mEnd (skip r) with
      | true =>
        have HQ := Lib.hid (show patrs (r0.length + 1) r0 [] = some (acc, skip r) by rw [HP.out, if_pos (Or.inr hm)])
        obtain ⟨ao, cap, hxa⟩ := own_slice A1.out.2.2.2.2
        have Z := Lib.hid (PAs.some A1.out.2.1 HQ.out A1.out.2.2.2.2 A1.out.1)
        clear HP hm HQ A1
        subst hxa
        go_wp2
        go_ret
        exact Z.out
      | false =>
        have HQ := Lib.hid (show patrs (r0.length + 1) r0 [] = (match atr (skip r) with
          | none => none
          | some (a, u) => if (acc.map (·.1)).contains a.1 = true then none else patrs (f - 1) u (acc ++ [a])) by rw [HP.out, if_neg (by rintro (q | q); omega; rw [hm] at q; cases q)])
        clear HP hm
        generalize hz : skip r = z at *
        go_wp2_with fail
        refine (pattr_any B0 b z ov g lv _ A1.out.1 A1.out.2.2.1 hb (by omega)).mono ?_
        rintro e w3 ⟨o3, he⟩
        cases ha : atr z with
        | none =>
          rw [ha] at he
          subst he
          exact ⟨rfl, PAs.none (A1.out.2.1.trans o3) (by rw [HQ.out, ha])⟩
        | some x =>
          obtain ⟨a, u⟩ := x
          rw [ha] at he
          simp only at he
          obtain ⟨rfl, p3⟩ := he
          have hul := atr_len ha
          have HR := Lib.hid (show patrs (r0.length + 1) r0 [] = (if (acc.map (·.1)).contains a.1 = true then none else patrs (f - 1) u (acc ++ [a])) by rw [HQ.out, ha])
          have k4 := (Kept.refl w3).alloc (.cells #[sV a.1, sV a.2] 120)
          have k5 := k4.alloc (.cells #[] 85)
          have A4 := Lib.hid (And.intro (p3.kept k5) (And.intro ((A1.out.2.1.trans o3).kept k5) (And.intro ((A1.out.2.2.1.ob o3 hb).kept k5) (And.intro ((A1.out.2.2.2.1.ob o3 (by omega)).kept k5) (((A1.out.2.2.2.2.ob o3 (pb_noA A1.out.1)).kept k5))))))
          have hlk := mp_look ((A1.out.2.2.2.1.ob o3 (by omega)).kept k4) a.1
          have B4 := Lib.hid (((ba_new w3 a).kept ((Kept.refl _).alloc (.cells #[] 85))))
          have hlt3 := (A1.out.2.2.2.1.ob o3 (by omega)).lt
          clear p3 o3 HQ ha A1 k4 k5
          generalize hdq : (acc.map (·.1)).contains a.1 = dq at hlk HR
          cases dq with
          | true =>
            rw [if_pos rfl] at HR
            have Z := Lib.hid (show PAs b r0 ov g lv w (gon 2) _ from PAs.none A4.out.2.1 HR.out)
            clear HR A4 B4 hdq
            go_wp2_with fail
            refine (need_no _).mono ?_
            rintro e w5 ⟨rfl, rfl⟩
            exact ⟨rfl, Z.out⟩
          | false =>
            rw [if_neg (by decide)] at HR
            have hput := mp_put A4.out.2.2.2.1 a.1 hdq (acc.length + 1) (by simp)
            go_wp2_with fail
            generalize (w3.alloc (.cells #[sV a.1, sV a.2] 120)).alloc (.cells #[] 85) = W2 at *
            refine (need_yes _).mono ?_
            rintro e w5 ⟨rfl, rfl⟩
            obtain ⟨b0, b1⟩ := B4.out.cs
            go_upto_region 8 with (fail)
            have hmp := mp_set A4.out.2.2.2.1 (acc.map (·.1) ++ [a.1]) (acc.length + 1) (by simp)
            have hgs := grown_set W2 w.heap.size (.map (mpE 0 (acc.map (·.1) ++ [a.1])).toArray (acc.length + 1))
            have hsb := fun (j : Nat) (hj : j ≠ w.heap.size) => set_block W2 w.heap.size (.map (mpE 0 (acc.map (·.1) ++ [a.1])).toArray (acc.length + 1)) hj
            have hsz := size_set W2 w.heap.size (.map (mpE 0 (acc.map (·.1) ++ [a.1])).toArray (acc.length + 1))
            have hnr : NoRow 120 W2 (some w.heap.size) := fun r hr c hc => by
              cases hr
              have := A4.out.2.2.2.1
              unfold Mp at this
              rw [this] at hc; cases hc
            generalize ({ W2 with heap := W2.heap.setIfInBounds w.heap.size (.map (mpE 0 (acc.map (·.1) ++ [a.1])).toArray (acc.length + 1)) } : World) = W3 at *
            have P3 : PB b u ov g lv W3 := (hsb b (by omega)).trans A4.out.1
            have O3 := A4.out.2.1.row hgs (fun k hk => by cases hk; exact Nat.le_refl _)
            have E3 : EX B0 W3 := A4.out.2.2.1.by fun ad v had hv => by
              have hb' := hsb ad.block (by omega)
              unfold World.cell? at hv ⊢
              rw [hb']; exact hv
            have A3 : AtsO w.heap.size u3 acc W3 := own_keep A4.out.2.2.2.2 hgs hnr
            have B3 : Ba w3.heap.size a W3 := (hsb _ (by omega)).trans B4.out
            have kx := (Kept.refl W3).alloc (.cells #[sV a.1, sV a.2] 120)
            obtain ⟨i0, hi, hz0, hz1, hz2⟩ := info_parts infoA
            obtain ⟨xo, xc, hxs⟩ := own_slice A3
            have Px := Lib.hid (P3.kept kx)
            have Ox := Lib.hid (O3.kept kx)
            have Ex := Lib.hid (E3.kept kx)
            have MX := Lib.hid (hmp.kept kx)
            have AX := Lib.hid (World.ownsRow.alloc A3 (.cells #[sV a.1, sV a.2] 120))
            have hszx := O3.size
            obtain ⟨a0, a1⟩ := B3.cs
            have hal := HL.out
            subst hxs
            clear hput hlk P3 O3 E3 A3 B3 B4 A4 kx hmp hgs hsb hsz hnr b0 b1
            go_wp2_with (at_builtin; refine wpList_append_own _ rfl _ _ 41 rfl w.heap.size 120 i0 _ 2 32 Tryz.underlying41 hi hz0 hz1 hz2 rfl (by decide) _ _ _ rfl AX.out ⟨W3.heap.size, 0, none⟩ 1 1 [sV a.1, sV a.2] rfl rfl ?n1 ?n2 ?n3 ?n4 ?n5 ?_)
            case n1 =>
              intro j u hj
              match j, hj with
              | 0, hj => simp at hj; subst hj; simp [Addr.add]
              | 1, hj => simp at hj; subst hj; simp [Addr.add]
            case n2 => intro u hu; simp at hu; rcases hu with rfl | rfl <;> rfl
            case n3 => unfold maxLen; omega
            case n4 => omega
            case n5 => simp; omega
            intro v' w12 hown' hgrow _
            have hrow := fun k hk => (World.ownsRow.lt AX.out k hk).1
            have P4 := Px.out.grow hgrow (NoRow.own AX.out (by decide))
            have O4 := Ox.out.row hgrow hrow
            have M4 := MX.out.grow hgrow (fun r hr => by
              obtain ⟨c, hc⟩ := own_kind AX.out r hr
              exact ⟨c, _, hc⟩)
            have E4 : EX B0 w12 := Ex.out.by fun ad v had hv => by
              have hb' := hgrow.block ad.block (cell_lt hv) (fun e => by have := hrow _ e.symm; omega)
              unfold World.cell? at hv ⊢
              rw [hb']; exact hv
            have A4 : AtsO w.heap.size v' (acc ++ [a]) w12 := by
              unfold AtsO
              rw [List.length_append, List.flatMap_append]
              exact hown'
            have C4 := Lib.hid (show Ax B0 b r0 u ov g lv v' (acc ++ [a]) w w12 from ⟨P4, O4, E4, by rw [List.map_append]; exact M4, A4, ⟨f - 1, by omega, HR.out⟩, by omega, by rw [List.length_append]; show acc.length + 1 + u.length ≤ r0.length; omega⟩)
            obtain ⟨ao, cp, hv'⟩ := own_slice hown'
            have hms2 : strN ((w12.cell? ⟨b, 0, none⟩).getD undef) = u.length := by rw [P4.cs.1]; exact strN_sV u
            clear P4 O4 M4 E4 A4 hown' hgrow Px Ox Ex MX AX
            subst hv'
            go_wp2
            go_roundw
            case rel => exact ⟨u, acc ++ [a], C4⟩
            case measure =>
              rw [hmes]
              show strN ((w12.cell? ⟨b, 0, none⟩).getD undef) < r.length
              rw [hms2]; omega
    · have HQ := Lib.hid (show patrs (r0.length + 1) r0 [] = some (acc, skip r) by rw [HP.out, if_pos (Or.inl (by omega))])
      rw [decide_eq_false hq]
      obtain ⟨ao, cap, hxa⟩ := own_slice A1.out.2.2.2.2
      have Z := Lib.hid (PAs.some A1.out.2.1 HQ.out A1.out.2.2.2.2 A1.out.1)
      clear HP HQ A1
      subst hxa
      go_wp2
      go_ret
      exact Z.out
end Go.Proofs.YtflhmgnhjnaiiaaGreatDoor
