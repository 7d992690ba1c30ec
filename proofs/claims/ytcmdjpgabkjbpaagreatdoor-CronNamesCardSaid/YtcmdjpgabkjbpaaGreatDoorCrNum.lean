/- Contracts of package cron: the reader's numbers and pieces. -/
import Derived.Test.YtcmdjpgabkjbpaaGreatDoorCrRead
import Derived.Deep.RegionHeld3
set_option linter.unusedVariables false
namespace Go.Proofs.YtcmdjpgabkjbpaaGreatDoor
open Go.ChangeShapes Go.WideShapes Go.ChangeAt Go.RowKit
open Crn
/-- what the library's tables hold -/
structure Tab (w : World) : Prop where
  cv : Lib.CaseVar 6 Lib.caseA w
  u8 : Lib.Utf8Tabs 2 3 w
  ml : ∃ m, w.cell? ⟨0, 0, none⟩ = some (.int .i64 m)
theorem u8_block {g h : Nat} {w : World} (k : Lib.Utf8Tabs g h w) : g < w.heap.size ∧ h < w.heap.size := by
  obtain ⟨a, b⟩ := k
  exact ⟨lt_cell (a 0 (by omega)), lt_cell (b 0 (by omega)).1⟩
theorem Tab.below {w w' : World} (h : Tab w) (hb : Below w.heap.size w w') : Tab w' := by
  refine ⟨Lib.CaseVar_below h.cv hb, ?_, ?_⟩
  · obtain ⟨l1, l2⟩ := u8_block h.u8
    have q : ∀ g j, g < w.heap.size → w'.cell? ⟨g, j, none⟩ = w.cell? ⟨g, j, none⟩ := fun g j hg => by unfold World.cell?; rw [hb.block g hg]
    refine ⟨fun c hc => (q 2 c l1).trans (h.u8.1 c hc), fun i hi => ⟨(q 3 _ l2).trans (h.u8.2 i hi).1, (q 3 _ l2).trans (h.u8.2 i hi).2⟩⟩
  · obtain ⟨m, hm⟩ := h.ml
    exact ⟨m, by unfold World.cell?; rw [hb.block 0 (lt_cell hm)]; exact hm⟩
/-- the tables, below a block's number -/
def Tb (n : Nat) (w : World) : Prop := ∃ w0, Tab w0 ∧ w0.heap.size ≤ n ∧ Below w0.heap.size w0 w
theorem Tb.tab {n : Nat} {w : World} (h : Tb n w) : Tab w := by obtain ⟨w0, h0, _, hb⟩ := h; exact h0.below hb
theorem Tb.start {w : World} (h : Tab w) : Tb w.heap.size w := ⟨w, h, Nat.le_refl _, (Kept.refl w).below (Nat.le_refl _)⟩
theorem below_trans {B : Nat} {a b c : World} (h : Below B a b) (hs : a.heap.size ≤ b.heap.size) (k : ∀ i, i < B → c.heap[i]? = b.heap[i]?) (h1 : c.os = b.os) (h2 : c.output = b.output) (h3 : c.tape = b.tape) (h4 : b.heap.size ≤ c.heap.size) : Below B a c :=
  ⟨h1.trans h.os, h3.trans h.tape, h2.trans h.output, Nat.le_trans hs h4, fun i hi => (k i hi).trans (h.block i hi)⟩
theorem Tb.only {n bk : Nat} {w w' : World} (h : Tb n w) (hb : n ≤ bk) (o : Only bk w w') : Tb n w' := by
  obtain ⟨w0, h0, hn, hB⟩ := h
  exact ⟨w0, h0, hn, below_trans hB hB.size (fun i hi => o.block i (Nat.lt_of_lt_of_le hi hB.size) (by omega)) o.os o.output o.tape o.size⟩
theorem Tb.kept {n : Nat} {w w' : World} (h : Tb n w) (o : Kept w w') : Tb n w' := by
  obtain ⟨w0, h0, hn, hB⟩ := h
  exact ⟨w0, h0, hn, below_trans hB hB.size (fun i hi => o.block i (Nat.lt_of_lt_of_le hi hB.size)) o.os o.output o.tape o.size⟩
theorem Tb.mono {n m : Nat} {w : World} (h : Tb n w) (hm : n ≤ m) : Tb m w := by obtain ⟨w0, h0, hn, hB⟩ := h; exact ⟨w0, h0, by omega, hB⟩
/-- three bytes are a name, or not -/
def nameR (f : Nat) (l : List UInt8) : Value × List UInt8 := match rName f l with
  | none => (.tuple #[.int .i64 0, .bool false], l)
  | some p => (.tuple #[.int .i64 p.1, .bool true], p.2)
structure Fl (f b : Nat) (x : World) : Prop where
  lt : b < x.heap.size
  c0 : x.cell? ⟨b, 0, none⟩ = some (.int .i64 (lo f))
  c1 : x.cell? ⟨b, 1, none⟩ = some (.int .i64 (hi f))
  c2 : x.cell? ⟨b, 2, none⟩ = some (.int .i64 (wr f))
  c3 : x.cell? ⟨b, 3, none⟩ = some (.string ⟨(nms f).toArray⟩)
theorem Fl.new (f : Nat) (w : World) : Fl f w.heap.size (w.alloc (fldO f)) :=
  ⟨by simp, new_cell w _ 57 0 _ rfl, new_cell w _ 57 1 _ rfl, new_cell w _ 57 2 _ rfl, new_cell w _ 57 3 _ rfl⟩
theorem Fl.only {f b bk : Nat} {w w' : World} (h : Fl f b w) (o : Only bk w w') (hn : b ≠ bk) : Fl f b w' := by
  have q : ∀ j, w'.cell? ⟨b, j, none⟩ = w.cell? ⟨b, j, none⟩ := fun j => by unfold World.cell?; rw [o.block b h.lt hn]
  exact ⟨Nat.lt_of_lt_of_le h.lt o.size, (q 0).trans h.c0, (q 1).trans h.c1, (q 2).trans h.c2, (q 3).trans h.c3⟩
theorem Fl.kept {f b : Nat} {w w' : World} (h : Fl f b w) (o : Kept w w') : Fl f b w' := by
  have q : ∀ j, w'.cell? ⟨b, j, none⟩ = w.cell? ⟨b, j, none⟩ := fun j => o.cell (a := ⟨b, j, none⟩) h.lt
  exact ⟨Nat.lt_of_lt_of_le h.lt o.size, (q 0).trans h.c0, (q 1).trans h.c1, (q 2).trans h.c2, (q 3).trans h.c3⟩
theorem nm_held {W x x' : World} {f b bk : Nat} {s : ByteArray} (k : Kept x x') (H : Kept W x ∧ x.cell? ⟨b, 0, none⟩ = some (.int .i64 (lo f)) ∧ x.cell? ⟨b, 1, none⟩ = some (.int .i64 (hi f)) ∧ x.cell? ⟨b, 2, none⟩ = some (.int .i64 (wr f)) ∧ x.cell? ⟨b, 3, none⟩ = some (.string ⟨(nms f).toArray⟩) ∧ x.cell? ⟨bk, 0, none⟩ = some (.string s)) :
    Kept W x' ∧ x'.cell? ⟨b, 0, none⟩ = some (.int .i64 (lo f)) ∧ x'.cell? ⟨b, 1, none⟩ = some (.int .i64 (hi f)) ∧ x'.cell? ⟨b, 2, none⟩ = some (.int .i64 (wr f)) ∧ x'.cell? ⟨b, 3, none⟩ = some (.string ⟨(nms f).toArray⟩) ∧ x'.cell? ⟨bk, 0, none⟩ = some (.string s) := by
  obtain ⟨h0, h1, h2, h3, h4, h5⟩ := H
  exact ⟨h0.trans k, (k.cell (a := ⟨b, 0, none⟩) (lt_cell h1)).trans h1, (k.cell (a := ⟨b, 1, none⟩) (lt_cell h2)).trans h2, (k.cell (a := ⟨b, 2, none⟩) (lt_cell h3)).trans h3, (k.cell (a := ⟨b, 3, none⟩) (lt_cell h4)).trans h4, (k.cell (a := ⟨bk, 0, none⟩) (lt_cell h5)).trans h5⟩
theorem tolow_any (t : List UInt8) (W w : World) (hl : t.length = 3) (ht : Tab W) (hk : Kept W w) : Calls Tryz.prog 119 #[.string ⟨t.toArray⟩] w fun e w' => e = .returned (.string ⟨(Lib.toLowerD t).toArray⟩) ∧ Kept w w' := by
  have hT := ht.below (hk.below (Nat.le_refl _))
  refine (Tryz.strings_ToLower_any ⟨t.toArray⟩ w (by rw [show (ByteArray.mk t.toArray).size = t.length from rfl, hl]; omega) hT.cv hT.u8).mono ?_
  rintro e w1 ⟨rfl, hb⟩
  exact ⟨by simp, Kept.of_below hb⟩
theorem named_none (f : Nat) (t : List UInt8) (h : fnd (nms f) t (lo f) = none) (w : World) : Calls Tryz.prog 118 #[fld f, .string ⟨t.toArray⟩] w fun e w' => e = .returned (.tuple #[.int .i64 0, .bool false]) ∧ Kept w w' := by
  have := named_any f t w; rw [h] at this; exact this
theorem named_some (f : Nat) (t : List UInt8) (n : Int) (h : fnd (nms f) t (lo f) = some n) (w : World) : Calls Tryz.prog 118 #[fld f, .string ⟨t.toArray⟩] w fun e w' => e = .returned (.tuple #[.int .i64 n, .bool true]) ∧ Kept w w' := by
  have := named_any f t w; rw [h] at this; exact this
set_option maxHeartbeats 1000000 in
theorem name_any (f : Nat) (l : List UInt8) (bk n : Nat) (w : World) (hn : n ≤ bk) (ht : Tb n w) (hc : w.cell? ⟨bk, 0, none⟩ = some (.string ⟨l.toArray⟩)) (hf : w.frozen? ⟨bk, 0, none⟩ = false) :
    Calls Tryz.prog 94 #[.pointer (some ⟨bk, 0, none⟩), fld f] w (RdPost (some (nameR f l)) bk w) := by
  have hb := lt_cell hc
  have k0 := (Kept.refl w).alloc (fldO f)
  have F0 := Fl.new f w
  have c0 := (k0.cell (a := ⟨bk, 0, none⟩) hb).trans hc
  have f0 := (k0.frozen (a := ⟨bk, 0, none⟩) hb).trans hf
  have t0 := (ht.kept k0).tab
  have o0 := Only.kept k0 hb
  by_cases h3 : l.length < 3
  · have HR := Lib.hid (show nameR f l = (.tuple #[.int .i64 0, .bool false], l) by simp only [nameR, rName, if_pos h3])
    go_enter Tryz.func94, Tryz.ntmps94
    go_upto_region 1 with (fail)
    generalize w.alloc (fldO f) = x at *
    go_wp2
    go_ret2
    rw [HR.out]
    exact ⟨rfl, o0, c0⟩
  · have h3' : (l.take 3).length = 3 := by simp; omega
    have hx : (ByteArray.mk l.toArray).extract 0 3 = ⟨(l.take 3).toArray⟩ := by rw [extract_mk]; simp
    have hx2 : (ByteArray.mk l.toArray).extract 3 l.length = ⟨(l.drop 3).toArray⟩ := by
      rw [extract_mk]; congr 2; rw [List.take_of_length_le (by simp)]
    have hl3 := nm_lower f (l.take 3) h3'
    have HN := Lib.hid (show rName f l = (nm f (l.take 3)).map fun n => (n, l.drop 3) by rw [rName, if_neg h3])
    obtain ⟨e0, e1, e2, e3⟩ := (⟨F0.c0, F0.c1, F0.c2, F0.c3⟩ : _ ∧ _ ∧ _ ∧ _)
    cases hnm : nm f (l.take 3) with
    | none =>
      have HR := Lib.hid (show nameR f l = (.tuple #[.int .i64 0, .bool false], l) by simp only [nameR, HN.out, hnm, Option.map_none])
      have HL := Lib.hid (hl3.trans hnm); clear hl3 hnm
      go_enter Tryz.func94, Tryz.ntmps94
      go_upto_region 1 with (fail)
      generalize w.alloc (fldO f) = x at *
      go_wp2_with fail
      go_region_held3 (fun y => Kept x y ∧ y.cell? ⟨w.heap.size, 0, none⟩ = some (.int .i64 (lo f)) ∧ y.cell? ⟨w.heap.size, 1, none⟩ = some (.int .i64 (hi f)) ∧ y.cell? ⟨w.heap.size, 2, none⟩ = some (.int .i64 (wr f)) ∧ y.cell? ⟨w.heap.size, 3, none⟩ = some (.string ⟨(nms f).toArray⟩) ∧ y.cell? ⟨bk, 0, none⟩ = some (.string ⟨l.toArray⟩))
        (first | exact nm_held (by assumption) (by assumption) | assumption | exact ⟨(Kept.refl x).drew, e0, e1, e2, e3, c0⟩)
        (first | (go_at_call 119; refine (tolow_any (l.take 3) x _ h3' t0 (by go_split_ands; assumption)).mono ?_; rintro e w' ⟨rfl, hk'⟩)
               | (go_at_call 118; refine (named_none f _ HL.out _).mono ?_; rintro e w' ⟨rfl, hk'⟩))
      obtain ⟨hK, -, -, -, -, cl⟩ := ‹Kept x _ ∧ _›
      have o1 := o0.trans (Only.kept hK (lt_cell c0))
      go_wp2
      go_ret2
      rw [HR.out]
      exact ⟨rfl, o1, cl⟩
    | some m =>
      have HR := Lib.hid (show nameR f l = (.tuple #[.int .i64 m, .bool true], l.drop 3) by simp only [nameR, HN.out, hnm, Option.map_some])
      have HL := Lib.hid (hl3.trans hnm); clear hl3 hnm
      go_enter Tryz.func94, Tryz.ntmps94
      go_upto_region 1 with (fail)
      generalize w.alloc (fldO f) = x at *
      go_wp2_with fail
      go_region_held3 (fun y => Kept x y ∧ y.cell? ⟨w.heap.size, 0, none⟩ = some (.int .i64 (lo f)) ∧ y.cell? ⟨w.heap.size, 1, none⟩ = some (.int .i64 (hi f)) ∧ y.cell? ⟨w.heap.size, 2, none⟩ = some (.int .i64 (wr f)) ∧ y.cell? ⟨w.heap.size, 3, none⟩ = some (.string ⟨(nms f).toArray⟩) ∧ y.cell? ⟨bk, 0, none⟩ = some (.string ⟨l.toArray⟩))
        (first | exact nm_held (by assumption) (by assumption) | assumption | exact ⟨(Kept.refl x).drew, e0, e1, e2, e3, c0⟩)
        (first | (go_at_call 119; refine (tolow_any (l.take 3) x _ h3' t0 (by go_split_ands; assumption)).mono ?_; rintro e w' ⟨rfl, hk'⟩)
               | (go_at_call 118; refine (named_some f _ m HL.out _).mono ?_; rintro e w' ⟨rfl, hk'⟩))
      obtain ⟨hK, -, -, -, -, cl⟩ := ‹Kept x _ ∧ _›
      have o1 := o0.trans (Only.kept hK (lt_cell c0))
      have f1 := o1.frozen.trans hf
      go_wp2
      go_ret2
      rw [HR.out]
      exact ⟨rfl, o1.trans (Only.set _ _ _), World.cell?_setCell_same _ _ _ cl⟩
set_option maxHeartbeats 1000000 in
theorem number_any (f : Nat) (l : List UInt8) (bk n : Nat) (w : World) (hn : n ≤ bk) (ht : Tb n w) (hc : w.cell? ⟨bk, 0, none⟩ = some (.string ⟨l.toArray⟩)) (hf : w.frozen? ⟨bk, 0, none⟩ = false) :
    Calls Tryz.prog 81 #[.pointer (some ⟨bk, 0, none⟩), fld f] w (RdPost ((rNum f l).map fun p => (.int .i64 p.1, p.2)) bk w) := by
  have hb := lt_cell hc
  have k0 := (Kept.refl w).alloc (fldO f)
  have F0 := Fl.new f w
  have c0 := (k0.cell (a := ⟨bk, 0, none⟩) hb).trans hc
  have f0 := (k0.frozen (a := ⟨bk, 0, none⟩) hb).trans hf
  have t0 := ht.kept k0
  have o0 := Only.kept k0 hb
  have hne : w.heap.size ≠ bk := by omega
  obtain ⟨e0, e1, e2, e3⟩ := (⟨F0.c0, F0.c1, F0.c2, F0.c3⟩ : _ ∧ _ ∧ _ ∧ _)
  go_enter Tryz.func81, Tryz.ntmps81
  go_upto_region 1 with (fail)
  generalize w.alloc (fldO f) = x at *
  go_wp2_with fail
  refine (name_any f l bk n _ hn t0 c0 f0).mono ?_
  intro e x1 hp
  cases h1 : rName f l with
  | some p =>
    have hv : nameR f l = (.tuple #[.int .i64 p.1, .bool true], p.2) := by simp only [nameR, h1]
    rw [hv] at hp
    obtain ⟨rfl, o1, c1⟩ := hp
    have HR := Lib.hid (show rNum f l = some p by rw [rNum, h1])
    clear h1 hv
    go_wp2
    go_ret
    rw [HR.out]
    exact ⟨rfl, o0.trans o1, c1⟩
  | none =>
    have hv : nameR f l = (.tuple #[.int .i64 0, .bool false], l) := by simp only [nameR, h1]
    rw [hv] at hp
    obtain ⟨rfl, o1, c1⟩ := hp
    have HR := Lib.hid (show rNum f l = (rDig l).bind fun p => if lo f ≤ p.1 ∧ p.1 ≤ wr f then some p else none by rw [rNum, h1])
    clear h1 hv e0 e1 e2 e3
    have f1 := o1.frozen.trans f0
    have F1 := F0.only o1 hne
    have o01 := o0.trans o1
    go_wp2_with fail
    refine (digits_any l bk _ c1 f1).mono ?_
    intro e x2 hp
    rcases hd : rDig l with _ | ⟨m, r⟩
    · rw [hd] at hp
      obtain ⟨rfl, o2⟩ := hp
      refine ⟨rfl, ?_⟩
      rw [HR.out, hd]
      exact ⟨rfl, o01.trans o2⟩
    · rw [hd] at hp
      obtain ⟨rfl, o2, c2⟩ := hp
      have HD := Lib.hid hd; clear hd
      have F2 := F1.only o2 hne
      obtain ⟨e0, e2⟩ := (⟨F2.c0, F2.c2⟩ : _ ∧ _)
      have o02 := o01.trans o2
      by_cases g1 : lo f ≤ m
      · by_cases g2 : m ≤ wr f
        · go_wp2_with fail
          refine (need_ok _ (by simp) _).mono ?_
          rintro e x3 ⟨rfl, rfl⟩
          go_wp2
          go_ret
          rw [HR.out, HD.out]
          simp only [Option.bind_some, if_pos (And.intro g1 g2)]
          exact ⟨rfl, o02, c2⟩
        · go_wp2_with fail
          refine (need_not _ (by simp; omega) _).mono ?_
          rintro e x3 ⟨rfl, rfl⟩
          refine ⟨rfl, ?_⟩
          rw [HR.out, HD.out]
          simp only [Option.bind_some, if_neg (show ¬ (lo f ≤ m ∧ m ≤ wr f) by omega)]
          exact ⟨rfl, o02⟩
      · go_wp2_with fail
        refine (need_not _ (by simp <;> omega) _).mono ?_
        rintro e x3 ⟨rfl, rfl⟩
        refine ⟨rfl, ?_⟩
        rw [HR.out, HD.out]
        simp only [Option.bind_some, if_neg (show ¬ (lo f ≤ m ∧ m ≤ wr f) by omega)]
        exact ⟨rfl, o02⟩
end Go.Proofs.YtcmdjpgabkjbpaaGreatDoor
