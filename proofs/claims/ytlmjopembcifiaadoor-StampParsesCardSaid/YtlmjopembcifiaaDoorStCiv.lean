/- Contracts of package stamp: the reader takes a day and time. -/
import Derived.Test.YtlmjopembcifiaaDoorStNum
namespace Go.Proofs.YtlmjopembcifiaaDoor
open Go.ChangeShapes Go.WideShapes Go.ChangeAt Go.RowKit
open Civ
/-- within a reading: only the reader's text has turned; a block of the call's own holds what it holds; what is left of the text -/
def Cst (bk n : Nat) (w : World) (cs : Array Value) (l : List UInt8) (x : World) : Prop :=
  Only bk w x ∧ x.heap[n]? = some (.cells cs 23) ∧ x.cell? ⟨bk, 0, none⟩ = some (.string ⟨l.toArray⟩) ∧ x.frozen? ⟨bk, 0, none⟩ = false
theorem Only.alloc (bk : Nat) (w : World) (o : Obj) (h : bk < w.heap.size) : Only bk w (w.alloc o) :=
  ⟨rfl, rfl, by simp, fun k hk _ => Below.heap_alloc _ _ _ hk, by unfold World.frozen?; rw [Below.heap_alloc _ _ _ h]⟩
theorem Cst.start {bk : Nat} {w : World} (cs : Array Value) {l : List UInt8} (hb : bk < w.heap.size) (hc : w.cell? ⟨bk, 0, none⟩ = some (.string ⟨l.toArray⟩)) (hf : w.frozen? ⟨bk, 0, none⟩ = false) :
    Cst bk w.heap.size w cs l (w.alloc (.cells cs 23)) :=
  ⟨Only.alloc _ _ _ hb, by show (w.heap.push _)[w.heap.size]? = _; simp, by unfold World.cell?; rw [Below.heap_alloc _ _ _ hb]; exact hc, by unfold World.frozen?; rw [Below.heap_alloc _ _ _ hb]; exact hf⟩
theorem Cst.call {bk n : Nat} {w x x' : World} {cs : Array Value} {l r : List UInt8} (h : Cst bk n w cs l x) (hn : n ≠ bk) (ho : Only bk x x') (hc : x'.cell? ⟨bk, 0, none⟩ = some (.string ⟨r.toArray⟩)) : Cst bk n w cs r x' := by
  obtain ⟨h1, h2, h3, h4⟩ := h
  have hlt : n < x.heap.size := by
    by_cases hl : n < x.heap.size
    · exact hl
    · rw [Array.getElem?_eq_none (by omega)] at h2; cases h2
  exact ⟨h1.trans ho, (ho.block n hlt hn).trans h2, hc, ho.frozen.trans h4⟩
theorem Cst.cell {bk n : Nat} {w x : World} {cs : Array Value} {l : List UInt8} (h : Cst bk n w cs l x) (j : Nat) {v : Value} (hv : cs[j]? = some v) : x.cell? ⟨n, j, none⟩ = some v := by
  simp [World.cell?, h.2.1, hv]
theorem Cst.fro {bk n : Nat} {w x : World} {cs : Array Value} {l : List UInt8} (h : Cst bk n w cs l x) (j : Nat) : x.frozen? ⟨n, j, none⟩ = false := by
  simp [World.frozen?, h.2.1]
theorem Cst.put {bk n : Nat} {w x : World} {cs : Array Value} {l : List UInt8} (h : Cst bk n w cs l x) (hn : n ≠ bk) (hw : w.heap.size ≤ n) (j : Nat) (v : Value) : Cst bk n w (cs.setIfInBounds j v) l (x.setCell ⟨n, j, none⟩ v) := by
  obtain ⟨h1, h2, h3, h4⟩ := h
  refine ⟨⟨h1.os, h1.output, by simpa [World.setCell] using h1.size, fun k hk hkn => (Below.heap_setCell _ _ _ _ (by show k ≠ n; omega)).trans (h1.block k hk hkn), (World.frozen?_setCell _ _ _ _).trans h1.frozen⟩, ?_, ?_, (World.frozen?_setCell _ _ _ _).trans h4⟩
  · simp [World.setCell, Array.getElem?_modify, h2]
  · unfold World.cell? at h3 ⊢
    rw [Below.heap_setCell _ _ _ _ (by show bk ≠ n; omega)]
    exact h3
/-- a day and time, as a text has it -/
def rciv (l : List UInt8) : Option ((Int × Int × Int × Int × Int × Int) × List UInt8) :=
  (rnum 4 0 l).bind fun a1 => (rsign [45] a1.2).bind fun a2 => (rnum 2 0 a2.2).bind fun a3 => (rsign [45] a3.2).bind fun a4 => (rnum 2 0 a4.2).bind fun a5 => (rsign [84, 116] a5.2).bind fun a6 =>
  (rnum 2 0 a6.2).bind fun a7 => (rsign [58] a7.2).bind fun a8 => (rnum 2 0 a8.2).bind fun a9 => (rsign [58] a9.2).bind fun a10 => (rnum 2 0 a10.2).bind fun a11 => some ((a1.1, a3.1, a5.1, a7.1, a9.1, a11.1), a11.2)
def CivPost (o : Option ((Int × Int × Int × Int × Int × Int) × List UInt8)) (bk : Nat) (w : World) (e : Ending) (w' : World) : Prop :=
  match o with
  | none => e = .panicked [{ v := faultV, recovered := false }] ∧ Only bk w w'
  | some ((y, m, d, h, i, s), r) => e = .returned (civ y m d h i s) ∧ Only bk w w' ∧ w'.cell? ⟨bk, 0, none⟩ = some (.string ⟨r.toArray⟩)
set_option maxHeartbeats 4000000 in
theorem civ_any (l : List UInt8) (bk : Nat) (w : World) (hb : bk < w.heap.size) (hc : w.cell? ⟨bk, 0, none⟩ = some (.string ⟨l.toArray⟩)) (hf : w.frozen? ⟨bk, 0, none⟩ = false) :
    Calls Tryd.prog 56 #[.pointer (some ⟨bk, 0, none⟩)] w (CivPost (rciv l) bk w) := by
  have st := Cst.start #[.int .i64 0, .int .i64 0, .int .i64 0, .int .i64 0, .int .i64 0, .int .i64 0] hb hc hf
  have hn : w.heap.size ≠ bk := by omega
  have HB := Lib.hid hb; clear hb hc hf
  have HN := Lib.hid hn; clear hn
  go_enter Tryd.func56, Tryd.ntmps56
  go_wp2_with fail
  generalize w.alloc (.cells #[.int .i64 0, .int .i64 0, .int .i64 0, .int .i64 0, .int .i64 0, .int .i64 0] 23) = x0 at *
  have ST0 := Lib.hid st; clear st
  refine (num_4 l bk _ ST0.out.2.2.1 ST0.out.2.2.2).mono ?_
  intro e y1 hp
  rcases h1 : rnum 4 0 l with _ | ⟨v1, l1⟩
  · rw [h1] at hp
    obtain ⟨rfl, ho⟩ := hp
    refine ⟨rfl, ?_⟩
    show CivPost (rciv l) bk w _ _
    rw [show rciv l = none by simp only [rciv, h1, Option.bind_none]]
    exact ⟨rfl, ST0.out.1.trans ho⟩
  rw [h1] at hp
  obtain ⟨rfl, ho, hc⟩ := hp
  have ST1 := Lib.hid (ST0.out.call HN.out ho hc)
  clear ST0 ho hc
  have H1 := Lib.hid h1; clear h1
  have c0 := ST1.out.cell 0 rfl
  have f0 := ST1.out.fro 0
  go_wp2_with fail
  have ST1p := Lib.hid (ST1.out.put HN.out (Nat.le_refl _) 0 (.int .i64 v1))
  clear ST1 c0 f0
  generalize y1.setCell ⟨w.heap.size, 0, none⟩ (.int .i64 v1) = x1 at *
  refine (sign_any [45] l1 bk _ ST1p.out.2.2.1 ST1p.out.2.2.2).mono ?_
  intro e y2 hp
  rcases h2 : rsign [45] l1 with _ | ⟨v2, l2⟩
  · rw [h2] at hp
    obtain ⟨rfl, ho⟩ := hp
    refine ⟨rfl, ?_⟩
    show CivPost (rciv l) bk w _ _
    rw [show rciv l = none by simp only [rciv, H1.out, h2, Option.bind_none, Option.bind_some]]
    exact ⟨rfl, ST1p.out.1.trans ho⟩
  rw [h2] at hp
  obtain ⟨rfl, ho, hc⟩ := hp
  have ST2 := Lib.hid (ST1p.out.call HN.out ho hc)
  clear ST1p ho hc
  have H2 := Lib.hid h2; clear h2
  go_wp2_with fail
  refine (num_2 l2 bk _ ST2.out.2.2.1 ST2.out.2.2.2).mono ?_
  intro e y3 hp
  rcases h3 : rnum 2 0 l2 with _ | ⟨v3, l3⟩
  · rw [h3] at hp
    obtain ⟨rfl, ho⟩ := hp
    refine ⟨rfl, ?_⟩
    show CivPost (rciv l) bk w _ _
    rw [show rciv l = none by simp only [rciv, H1.out, H2.out, h3, Option.bind_none, Option.bind_some]]
    exact ⟨rfl, ST2.out.1.trans ho⟩
  rw [h3] at hp
  obtain ⟨rfl, ho, hc⟩ := hp
  have ST3 := Lib.hid (ST2.out.call HN.out ho hc)
  clear ST2 ho hc
  have H3 := Lib.hid h3; clear h3
  have c0 := ST3.out.cell 1 rfl
  have f0 := ST3.out.fro 1
  go_wp2_with fail
  have ST3p := Lib.hid (ST3.out.put HN.out (Nat.le_refl _) 1 (.int .i64 v3))
  clear ST3 c0 f0
  generalize y3.setCell ⟨w.heap.size, 1, none⟩ (.int .i64 v3) = x3 at *
  refine (sign_any [45] l3 bk _ ST3p.out.2.2.1 ST3p.out.2.2.2).mono ?_
  intro e y4 hp
  rcases h4 : rsign [45] l3 with _ | ⟨v4, l4⟩
  · rw [h4] at hp
    obtain ⟨rfl, ho⟩ := hp
    refine ⟨rfl, ?_⟩
    show CivPost (rciv l) bk w _ _
    rw [show rciv l = none by simp only [rciv, H1.out, H2.out, H3.out, h4, Option.bind_none, Option.bind_some]]
    exact ⟨rfl, ST3p.out.1.trans ho⟩
  rw [h4] at hp
  obtain ⟨rfl, ho, hc⟩ := hp
  have ST4 := Lib.hid (ST3p.out.call HN.out ho hc)
  clear ST3p ho hc
  have H4 := Lib.hid h4; clear h4
  go_wp2_with fail
  refine (num_2 l4 bk _ ST4.out.2.2.1 ST4.out.2.2.2).mono ?_
  intro e y5 hp
  rcases h5 : rnum 2 0 l4 with _ | ⟨v5, l5⟩
  · rw [h5] at hp
    obtain ⟨rfl, ho⟩ := hp
    refine ⟨rfl, ?_⟩
    show CivPost (rciv l) bk w _ _
    rw [show rciv l = none by simp only [rciv, H1.out, H2.out, H3.out, H4.out, h5, Option.bind_none, Option.bind_some]]
    exact ⟨rfl, ST4.out.1.trans ho⟩
  rw [h5] at hp
  obtain ⟨rfl, ho, hc⟩ := hp
  have ST5 := Lib.hid (ST4.out.call HN.out ho hc)
  clear ST4 ho hc
  have H5 := Lib.hid h5; clear h5
  have c0 := ST5.out.cell 2 rfl
  have f0 := ST5.out.fro 2
  go_wp2_with fail
  have ST5p := Lib.hid (ST5.out.put HN.out (Nat.le_refl _) 2 (.int .i64 v5))
  clear ST5 c0 f0
  generalize y5.setCell ⟨w.heap.size, 2, none⟩ (.int .i64 v5) = x5 at *
  refine (sign_any [84, 116] l5 bk _ ST5p.out.2.2.1 ST5p.out.2.2.2).mono ?_
  intro e y6 hp
  rcases h6 : rsign [84, 116] l5 with _ | ⟨v6, l6⟩
  · rw [h6] at hp
    obtain ⟨rfl, ho⟩ := hp
    refine ⟨rfl, ?_⟩
    show CivPost (rciv l) bk w _ _
    rw [show rciv l = none by simp only [rciv, H1.out, H2.out, H3.out, H4.out, H5.out, h6, Option.bind_none, Option.bind_some]]
    exact ⟨rfl, ST5p.out.1.trans ho⟩
  rw [h6] at hp
  obtain ⟨rfl, ho, hc⟩ := hp
  have ST6 := Lib.hid (ST5p.out.call HN.out ho hc)
  clear ST5p ho hc
  have H6 := Lib.hid h6; clear h6
  go_wp2_with fail
  refine (num_2 l6 bk _ ST6.out.2.2.1 ST6.out.2.2.2).mono ?_
  intro e y7 hp
  rcases h7 : rnum 2 0 l6 with _ | ⟨v7, l7⟩
  · rw [h7] at hp
    obtain ⟨rfl, ho⟩ := hp
    refine ⟨rfl, ?_⟩
    show CivPost (rciv l) bk w _ _
    rw [show rciv l = none by simp only [rciv, H1.out, H2.out, H3.out, H4.out, H5.out, H6.out, h7, Option.bind_none, Option.bind_some]]
    exact ⟨rfl, ST6.out.1.trans ho⟩
  rw [h7] at hp
  obtain ⟨rfl, ho, hc⟩ := hp
  have ST7 := Lib.hid (ST6.out.call HN.out ho hc)
  clear ST6 ho hc
  have H7 := Lib.hid h7; clear h7
  have c0 := ST7.out.cell 3 rfl
  have f0 := ST7.out.fro 3
  go_wp2_with fail
  have ST7p := Lib.hid (ST7.out.put HN.out (Nat.le_refl _) 3 (.int .i64 v7))
  clear ST7 c0 f0
  generalize y7.setCell ⟨w.heap.size, 3, none⟩ (.int .i64 v7) = x7 at *
  refine (sign_any [58] l7 bk _ ST7p.out.2.2.1 ST7p.out.2.2.2).mono ?_
  intro e y8 hp
  rcases h8 : rsign [58] l7 with _ | ⟨v8, l8⟩
  · rw [h8] at hp
    obtain ⟨rfl, ho⟩ := hp
    refine ⟨rfl, ?_⟩
    show CivPost (rciv l) bk w _ _
    rw [show rciv l = none by simp only [rciv, H1.out, H2.out, H3.out, H4.out, H5.out, H6.out, H7.out, h8, Option.bind_none, Option.bind_some]]
    exact ⟨rfl, ST7p.out.1.trans ho⟩
  rw [h8] at hp
  obtain ⟨rfl, ho, hc⟩ := hp
  have ST8 := Lib.hid (ST7p.out.call HN.out ho hc)
  clear ST7p ho hc
  have H8 := Lib.hid h8; clear h8
  go_wp2_with fail
  refine (num_2 l8 bk _ ST8.out.2.2.1 ST8.out.2.2.2).mono ?_
  intro e y9 hp
  rcases h9 : rnum 2 0 l8 with _ | ⟨v9, l9⟩
  · rw [h9] at hp
    obtain ⟨rfl, ho⟩ := hp
    refine ⟨rfl, ?_⟩
    show CivPost (rciv l) bk w _ _
    rw [show rciv l = none by simp only [rciv, H1.out, H2.out, H3.out, H4.out, H5.out, H6.out, H7.out, H8.out, h9, Option.bind_none, Option.bind_some]]
    exact ⟨rfl, ST8.out.1.trans ho⟩
  rw [h9] at hp
  obtain ⟨rfl, ho, hc⟩ := hp
  have ST9 := Lib.hid (ST8.out.call HN.out ho hc)
  clear ST8 ho hc
  have H9 := Lib.hid h9; clear h9
  have c0 := ST9.out.cell 4 rfl
  have f0 := ST9.out.fro 4
  go_wp2_with fail
  have ST9p := Lib.hid (ST9.out.put HN.out (Nat.le_refl _) 4 (.int .i64 v9))
  clear ST9 c0 f0
  generalize y9.setCell ⟨w.heap.size, 4, none⟩ (.int .i64 v9) = x9 at *
  refine (sign_any [58] l9 bk _ ST9p.out.2.2.1 ST9p.out.2.2.2).mono ?_
  intro e y10 hp
  rcases h10 : rsign [58] l9 with _ | ⟨v10, l10⟩
  · rw [h10] at hp
    obtain ⟨rfl, ho⟩ := hp
    refine ⟨rfl, ?_⟩
    show CivPost (rciv l) bk w _ _
    rw [show rciv l = none by simp only [rciv, H1.out, H2.out, H3.out, H4.out, H5.out, H6.out, H7.out, H8.out, H9.out, h10, Option.bind_none, Option.bind_some]]
    exact ⟨rfl, ST9p.out.1.trans ho⟩
  rw [h10] at hp
  obtain ⟨rfl, ho, hc⟩ := hp
  have ST10 := Lib.hid (ST9p.out.call HN.out ho hc)
  clear ST9p ho hc
  have H10 := Lib.hid h10; clear h10
  go_wp2_with fail
  refine (num_2 l10 bk _ ST10.out.2.2.1 ST10.out.2.2.2).mono ?_
  intro e y11 hp
  rcases h11 : rnum 2 0 l10 with _ | ⟨v11, l11⟩
  · rw [h11] at hp
    obtain ⟨rfl, ho⟩ := hp
    refine ⟨rfl, ?_⟩
    show CivPost (rciv l) bk w _ _
    rw [show rciv l = none by simp only [rciv, H1.out, H2.out, H3.out, H4.out, H5.out, H6.out, H7.out, H8.out, H9.out, H10.out, h11, Option.bind_none, Option.bind_some]]
    exact ⟨rfl, ST10.out.1.trans ho⟩
  rw [h11] at hp
  obtain ⟨rfl, ho, hc⟩ := hp
  have ST11 := Lib.hid (ST10.out.call HN.out ho hc)
  clear ST10 ho hc
  have H11 := Lib.hid h11; clear h11
  have c0 := ST11.out.cell 0 rfl
  have c1 := ST11.out.cell 1 rfl
  have c2 := ST11.out.cell 2 rfl
  have c3 := ST11.out.cell 3 rfl
  have c4 := ST11.out.cell 4 rfl
  have c5 := ST11.out.cell 5 rfl
  have f0 := ST11.out.fro
  go_wp2
  refine bodyPost_ret (v := civ v1 v3 v5 v7 v9 v11) (by simp [results, Tryd.results56, go_sem, *]) rfl ?_
  have hz := (((((((ST11.out.put HN.out (Nat.le_refl _) 5 (.int .i64 v11)).put HN.out (Nat.le_refl _) 0 (.int .i64 v1)).put HN.out (Nat.le_refl _) 1 (.int .i64 v3)).put HN.out (Nat.le_refl _) 2 (.int .i64 v5)).put HN.out (Nat.le_refl _) 3 (.int .i64 v7)).put HN.out (Nat.le_refl _) 4 (.int .i64 v9)).put HN.out (Nat.le_refl _) 5 (.int .i64 v11))
  rw [show rciv l = some ((v1, v3, v5, v7, v9, v11), l11) by simp only [rciv, H1.out, H2.out, H3.out, H4.out, H5.out, H6.out, H7.out, H8.out, H9.out, H10.out, H11.out, Option.bind_some]]
  exact ⟨rfl, hz.1, hz.2.2.1⟩
end Go.Proofs.YtlmjopembcifiaaDoor
