/- The document's own answers of package cron: what a text is parsed as. -/
import Derived.Test.YtcmdjpgabkjbpaaGreatDoorCrRefD
import Derived.Test.YtcmdjpgabkjbpaaGreatDoorCrRes
set_option linter.unusedVariables false
namespace Go.Proofs.YtcmdjpgabkjbpaaGreatDoor
open Go.ChangeShapes Go.WideShapes Go.ChangeAt Go.RowKit
open Crn Civ
/-- within the document's reading: its three blocks, and the texts between blanks -/
structure Pz (w : World) (m g : Nat) (ps : List (List UInt8)) (cs : Array Value) (x : World) : Prop where
  k : Kept w x
  b0 : x.heap[w.heap.size]? = some (.cells z10 27)
  b1 : x.heap[w.heap.size + 1]? = some (.cells z10 27)
  bm : x.heap[m]? = some (.cells cs 27)
  gl : g < x.heap.size
  sg : ∀ (j : Nat) p, ps[j]? = some p → x.cell? ⟨g, j, none⟩ = some (.string ⟨p.toArray⟩)
theorem Pz.lt {w : World} {m g : Nat} {ps : List (List UInt8)} {cs : Array Value} {x : World} (h : Pz w m g ps cs x) : m < x.heap.size := (Array.getElem?_eq_some_iff.1 h.bm).1
theorem Pz.kept {w : World} {m g : Nat} {ps : List (List UInt8)} {cs : Array Value} {x x' : World} (h : Pz w m g ps cs x) (kk : Kept x x') : Pz w m g ps cs x' :=
  ⟨h.k.trans kk, (kk.block _ (Array.getElem?_eq_some_iff.1 h.b0).1).trans h.b0, (kk.block _ (Array.getElem?_eq_some_iff.1 h.b1).1).trans h.b1, (kk.block _ h.lt).trans h.bm, Nat.lt_of_lt_of_le h.gl kk.size, fun j p hj => (kk.cell (a := ⟨g, j, none⟩) h.gl).trans (h.sg j p hj)⟩
theorem Pz.putm {w : World} {m g : Nat} {ps : List (List UInt8)} {cs : Array Value} {x : World} (h : Pz w m g ps cs x) (hm : w.heap.size + 1 < m) (hg : g ≠ m) (j : Nat) (v : Value) : Pz w m g ps (cs.setIfInBounds j v) (x.setCell ⟨m, j, none⟩ v) := by
  have q : ∀ i, i ≠ m → (x.setCell ⟨m, j, none⟩ v).heap[i]? = x.heap[i]? := fun i hi => Below.heap_setCell _ _ _ _ hi
  have hs : (x.setCell ⟨m, j, none⟩ v).heap.size = x.heap.size := by simp [World.setCell]
  refine ⟨⟨h.k.os, h.k.output, by rw [hs]; exact h.k.size, fun i hi => (q i (by omega)).trans (h.k.block i hi), h.k.tape⟩, (q _ (by omega)).trans h.b0, (q _ (by omega)).trans h.b1, block_set h.bm v, by rw [hs]; exact h.gl, fun i p hi => ?_⟩
  have := h.sg i p hi
  unfold World.cell? at this ⊢
  rw [q g hg]; exact this
theorem Pz.bar {w : World} {m g : Nat} {ps : List (List UInt8)} {cs cs' : Array Value} {x x' : World} (h : Pz w m g ps cs x) (hm : w.heap.size + 1 < m) (hg : g ≠ m) (b : Bar m x x') (bm : x'.heap[m]? = some (.cells cs' 27)) : Pz w m g ps cs' x' := by
  have l0 := (Array.getElem?_eq_some_iff.1 h.b0).1
  have l1 := (Array.getElem?_eq_some_iff.1 h.b1).1
  have ks := h.k.size
  refine ⟨⟨b.os.trans h.k.os, b.output.trans h.k.output, Nat.le_trans h.k.size b.size, fun i hi => (b.block i (by omega) (by omega)).trans (h.k.block i hi), b.tape.trans h.k.tape⟩, (b.block _ l0 (by omega)).trans h.b0, (b.block _ l1 (by omega)).trans h.b1, bm, Nat.lt_of_lt_of_le h.gl b.size, fun i p hi => ?_⟩
  have := h.sg i p hi
  unfold World.cell? at this ⊢
  rw [b.block g h.gl hg]; exact this
theorem grow_bar {gA : Nat} {X y w7 : World} {v v' : Value} {o : Obj} (hb : Bar gA X y) (hv : ∀ g, v.ownBlock = some g → g = gA ∨ X.heap.size ≤ g) (hg : (y.alloc o).grownBy w7 v.ownBlock) (hv' : v'.ownBlock = v.ownBlock ∨ v'.ownBlock = some (y.alloc o).heap.size) : Bar gA X w7 ∧ ∀ g, v'.ownBlock = some g → g = gA ∨ X.heap.size ≤ g := by
  have hs := hb.size
  have hs2 := hg.size
  simp at hs2
  refine ⟨⟨hg.os.trans hb.os, hg.output.trans hb.output, hg.tape.trans hb.tape, by omega, fun j hj hn => ?_⟩, fun g hgv => ?_⟩
  · rw [hg.block j (by simp; omega) (fun e => by rcases hv j e.symm with h | h <;> omega), Below.heap_alloc _ _ _ (by omega), hb.block j hj hn]
  · rcases hv' with h | h
    · exact hv g (h ▸ hgv)
    · rw [h] at hgv
      simp at hgv
      exact Or.inr (by omega)
theorem bar_app {B m : Nat} {X y w7 : World} {l : List Int} {u : Int} {v v' : Value} (hB : X.heap.size ≤ B) (hm : m < X.heap.size) (hl : Out B v l y) (hk : Bar m X y) {o : Obj} (hg : (y.alloc o).grownBy w7 v.ownBlock)
    (hown' : w7.ownsRow B 3 1 v' (l.length + 1) ((l.map fun n => Value.int .i64 n) ++ [.int .i64 u])) : (∃ ao cap, v' = .slice ao (l ++ [u]).length cap) ∧ Out B v' (l ++ [u]) w7 ∧ Bar m X w7 ∧ w7.heap[m]? = y.heap[m]? := by
  obtain ⟨g3, cap3, hv3⟩ : ∃ g3 cap3, v' = .slice (some ⟨g3, 0, none⟩) (l.length + 1) cap3 := by
    rcases hown'.2 with ⟨_, hx⟩ | ⟨g3, cap3, _, hx, _⟩
    · omega
    · exact ⟨g3, cap3, hx⟩
  have hs := hk.size
  have q1 : ∀ j, v.ownBlock = some j → B ≤ j := by
    intro j hj
    rcases hl.2 with ⟨h1, _⟩ | ⟨g, cap, cur, h1, h2, _⟩
    · rw [h1] at hj; cases hj
    · rw [h1] at hj; cases hj; exact h2
  have hs2 := hg.size
  simp at hs2
  refine ⟨⟨some ⟨g3, 0, none⟩, cap3, by rw [hv3]; simp⟩, by unfold Out; rw [List.map_append, List.length_append]; exact hown', ⟨hg.os.trans hk.os, hg.output.trans hk.output, hg.tape.trans hk.tape, by omega, fun j hj hn => ?_⟩, ?_⟩
  · rw [hg.block j (by simp; omega) (fun e => by have := q1 j e.symm; omega), Below.heap_alloc _ _ _ (by omega), hk.block j hj hn]
  · rw [hg.block m (by simp; omega) (fun e => by have := q1 m e.symm; omega), Below.heap_alloc _ _ _ (by omega)]
theorem fst_bar {ps : List (List UInt8)} {m k : Nat} {cs cs' : Array Value} {done : List (List Int)} {x x' : World} (h : Fst ps (m + 1) k cs done x) (b : Bar m x x') (hc : ∀ j, j < k → cs'[j]? = cs[j]? ∧ cs'[5 + j]? = cs[5 + j]?) : Fst ps (m + 1) k cs' done x' := fun j hj => by
  obtain ⟨v, a1, a2, a3⟩ := h j hj
  exact ⟨v, by rw [(hc j hj).1]; exact a1, a2.bar b (by omega), by rw [(hc j hj).2]; exact a3⟩
theorem pick_next {all : List Int} {k : Nat} {n : Int} (h : n ≤ Crn.hi k) : pick all (Crn.hi k + 1 - n).toNat n = if all.contains n = true then n :: pick all (Crn.hi k + 1 - (n + 1)).toNat (n + 1) else pick all (Crn.hi k + 1 - (n + 1)).toNat (n + 1) := by
  rw [show (Crn.hi k + 1 - n).toNat = (Crn.hi k + 1 - (n + 1)).toNat + 1 by omega, pick]
theorem pick_done {all : List Int} {k : Nat} {n : Int} (h : Crn.hi k < n) : pick all (Crn.hi k + 1 - n).toNat n = [] := by
  rw [show (Crn.hi k + 1 - n).toNat = 0 by omega, pick]
theorem own_any (v : Value) (X : World) : ∃ gA, (∀ g, v.ownBlock = some g → g = gA ∨ X.heap.size ≤ g) ∧ (v.ownBlock = none → X.heap.size ≤ gA) ∧ (∀ g, v.ownBlock = some g → gA = g) := by
  cases h : v.ownBlock with
  | none => exact ⟨X.heap.size, fun g e => (by cases e), fun _ => Nat.le_refl _, fun g e => (by cases e)⟩
  | some g => exact ⟨g, fun g2 e => Or.inl (Option.some.inj e).symm, fun e => (by cases e), fun g2 e => Option.some.inj e⟩
theorem Out.own_ge {B g : Nat} {v : Value} {l : List Int} {x : World} (h : Out B v l x) (hg : v.ownBlock = some g) : B ≤ g := by
  rcases h.2 with ⟨h1, _⟩ | ⟨g2, cap, cur, h1, h2, _⟩
  · rw [h1] at hg; cases hg
  · rw [h1] at hg; cases hg; exact h2
theorem set_same {cs : Array Value} {k : Nat} {v : Value} (h : cs[k]? = some v) : cs.setIfInBounds k v = cs := by
  apply Array.ext_getElem?
  intro i
  by_cases hi : k = i
  · subst hi
    rw [Array.getElem?_setIfInBounds_self_of_lt (Array.getElem?_eq_some_iff.1 h).1, h]
  · rw [Array.getElem?_setIfInBounds_ne hi]
theorem set_set {cs : Array Value} {k : Nat} {u v : Value} : (cs.setIfInBounds k u).setIfInBounds k v = cs.setIfInBounds k v := by
  apply Array.ext_getElem?
  intro i
  by_cases hi : k = i
  · subst hi
    simp [Array.getElem?_setIfInBounds]
  · rw [Array.getElem?_setIfInBounds_ne hi, Array.getElem?_setIfInBounds_ne hi, Array.getElem?_setIfInBounds_ne hi]
theorem fst5 {ps : List (List UInt8)} {B : Nat} {cs : Array Value} {done : List (List Int)} {x : World} (h : Fst ps B 5 cs done x) (h10 : cs.size = 10) : ∃ sl, cs = cr10 sl (crOf done ps).st ∧ ∀ i, i < 5 → Out B (sl i) ((crOf done ps).L i) x := by
  refine ⟨fun i => (cs[i]?).getD (.bool false), ?_, fun i hi => ?_⟩
  · have q : ∀ i, i < 5 → cs[i]? = some ((fun i => (cs[i]?).getD (.bool false)) i) ∧ cs[5 + i]? = some (.bool ((crOf done ps).st i)) := fun i hi => by
      obtain ⟨v, a1, _, a3⟩ := h i hi
      exact ⟨by simp only [a1, Option.getD_some], a3⟩
    exact arr10_eq h10 (q 0 (by omega)).1 (q 1 (by omega)).1 (q 2 (by omega)).1 (q 3 (by omega)).1 (q 4 (by omega)).1 (q 0 (by omega)).2 (q 1 (by omega)).2 (q 2 (by omega)).2 (q 3 (by omega)).2 (q 4 (by omega)).2
  · obtain ⟨v, a1, a2, _⟩ := h i hi
    simp only [a1, Option.getD_some]
    exact a2
theorem rparse_results (n : Nat) (cs : Array Value) (e : Int) (tmps : Array Value) (x : World) (h10 : cs.size = 10) (h2 : tmps[2]? = some (.pointer (some ⟨n, 0, none⟩))) (h3 : tmps[3]? = some (.int .i64 e))
    (b0 : x.heap[n]? = some (.cells cs 27)) : (results Tryz.f12 tmps).run Tryz.prog x = .ok (.tuple #[.agg cs, .int .i64 e]) x := by
  obtain ⟨a0, a1, a2, a3, a4, a5, a6, a7, a8, a9, rfl⟩ := arr10 cs h10
  have d0 := cell_of (j := 0) b0 rfl
  have d1 := cell_of (j := 1) b0 rfl
  have d2 := cell_of (j := 2) b0 rfl
  have d3 := cell_of (j := 3) b0 rfl
  have d4 := cell_of (j := 4) b0 rfl
  have d5 := cell_of (j := 5) b0 rfl
  have d6 := cell_of (j := 6) b0 rfl
  have d7 := cell_of (j := 7) b0 rfl
  have d8 := cell_of (j := 8) b0 rfl
  have d9 := cell_of (j := 9) b0 rfl
  clear b0 h10
  simp [results, Tryz.results12, go_sem, *]
def RPost (l : List UInt8) (w : World) (e : Ending) (w' : World) : Prop := ∃ sl, e = .returned (.tuple #[crV sl (resP l).1.st, .int .i64 (resP l).2]) ∧ Cr w' sl (resP l).1.L ∧ Kept w w'
theorem rpost_z {l : List UInt8} {w w' : World} {n : Int} (h : resP l = (zC, n)) (k : Kept w w') : RPost l w (.returned (.tuple #[.agg z10, .int .i64 n])) w' := by
  unfold RPost
  rw [h]
  exact ⟨zsl, rfl, zC_cr _, k⟩
theorem prsL_snocR {ps : List (List UInt8)} {k : Nat} {p : List UInt8} (f : Nat) (h : ps[k]? = some p) : prsL f (ps.drop k) = (prt f p).bind fun a => (prsL (f + 1) (ps.drop (k + 1))).map fun l => a :: l := prsL_snoc f h
/-- the round's state -/
def RIn (ps : List (List UInt8)) (w : World) (m g : Nat) (a : Value) (x : World) : Prop :=
  ∃ (k : Nat) (cs : Array Value) (done : List (List Int)), k ≤ 5 ∧ a = .int .i64 k ∧ done.length = k ∧ prsL 0 ps = (prsL k (ps.drop k)).map (fun l => done ++ l) ∧ Pz w m g ps cs x ∧ cs.size = 10 ∧ Fst ps (m + 1) k cs done x ∧ (∀ j, k ≤ j → j < 5 → cs[j]? = some (.slice none 0 0))
set_option maxRecDepth 100000 in
set_option maxHeartbeats 4000000 in
theorem rparse_any (l : List UInt8) (w : World) (hl : l.length ≤ 500) : Calls Tryz.prog 12 #[.string ⟨l.toArray⟩] w (RPost l w) := by
  obtain ⟨i0, hi, hz0, hz1, hz2⟩ := info_parts (show (Tryz.prog.info? 3).map (fun i => (i.zero, i.size, i.bytes)) = some (some (.int .i64 0), 1, 8) by kernel_rfl)
  have K1 := Lib.hid (((Kept.refl w).alloc (.cells z10 27)).alloc (.cells z10 27))
  have q : ∀ (A B : Obj), ((w.alloc A).alloc B).heap = (w.heap.push A).push B := fun _ _ => rfl
  have Z0 := Lib.hid (show ((w.alloc (.cells z10 27)).alloc (.cells z10 27)).heap[w.heap.size]? = some (.cells z10 27) by rw [q, Array.getElem?_push, if_neg (by simp), Array.getElem?_push, if_pos rfl])
  have Z1 := Lib.hid (show ((w.alloc (.cells z10 27)).alloc (.cells z10 27)).heap[w.heap.size + 1]? = some (.cells z10 27) by rw [q, Array.getElem?_push, if_pos (by simp)])
  clear q
  go_enter Tryz.func12, Tryz.ntmps12
  go_upto_region 2 with (refine wpList_store_row rfl 27 _ _ rfl (w.heap.size + 1) _ rfl rfl 27 _ Z1.out (by kernel_rfl) rfl (by simp [Value.oneCell']) ?_)
  have K2 := Lib.hid (K1.out.setRow (show w.heap.size ≤ w.heap.size + 1 by omega) z10)
  have Y1 := Lib.hid (show (((w.alloc (.cells z10 27)).alloc (.cells z10 27)).setRow (w.heap.size + 1) z10).heap[w.heap.size + 1]? = some (.cells z10 27) from setRow_heap _ _ _ _ _ _ Z1.out)
  have Y0 := Lib.hid ((setRow_other ((w.alloc (.cells z10 27)).alloc (.cells z10 27)) (w.heap.size + 1) w.heap.size z10 (by omega)).trans Z0.out)
  clear K1 Z0 Z1
  generalize ((w.alloc (.cells z10 27)).alloc (.cells z10 27)).setRow (w.heap.size + 1) z10 = x at *
  by_cases h2 : 200 < l.length
  · have HR := Lib.hid (res_over h2)
    go_wp2_with (first | refine wpList_load_row rfl 27 _ rfl (w.heap.size + 1) rfl 27 _ (0, 0) _ Y1.out Tryz.underlying27 rfl (by kernel_rfl) ?_ | refine wpList_store_row rfl 27 _ _ rfl w.heap.size _ rfl rfl 27 _ Y0.out (by kernel_rfl) rfl (by simp [Value.oneCell']) ?_)
    exact bodyPost_ret (v := .tuple #[.agg z10, .int .i64 4]) (rparse_results w.heap.size z10 4 _ _ rfl rfl rfl (setRow_heap _ _ _ _ _ _ Y0.out)) rfl (rpost_z HR.out (K2.out.setRow (Nat.le_refl _) _))
  · have h2i : (l.length : Int) ≤ 200 := by omega
    go_wp2_with fail
    refine (rsplit_any 32 l _ (by omega)).mono ?_
    rintro e x3 ⟨v5, rfl, os, k3⟩
    have K3 := Lib.hid (K2.out.trans k3)
    have Y13 := Lib.hid ((k3.block _ (Array.getElem?_eq_some_iff.1 Y1.out).1).trans Y1.out)
    have Y03 := Lib.hid ((k3.block _ (Array.getElem?_eq_some_iff.1 Y0.out).1).trans Y0.out)
    have hx1 : w.heap.size + 1 < x3.heap.size := (Array.getElem?_eq_some_iff.1 Y13.out).1
    have hps := Lib.hid (fun t ht => (splt_mem (c := 32) l t ht).2)
    have HP := Lib.hid (show prs l = if (splt 32 l).length = 5 then (prsL 0 (splt 32 l)).map fun ls => crOf ls (splt 32 l) else none from rfl)
    have hsl := splt_len 32 l
    obtain ⟨ao, cap, rfl⟩ := os.slice
    have OS := Lib.hid os; clear os k3 Y1 Y0 K2
    generalize splt 32 l = ps at *
    by_cases h5 : ps.length = 5
    · have HQ := Lib.hid (show prs l = (prsL 0 ps).map fun ls => crOf ls ps by rw [HP.out, if_pos h5])
      clear HP
      obtain ⟨g, cap2, hse, hcell⟩ := OS.out.at (k := 0) (by omega)
      have hgl := lt_cell (hcell 0 _ (List.getElem?_eq_getElem (by omega)))
      simp only [Value.slice.injEq] at hse
      obtain ⟨hse, -, -⟩ := hse
      subst hse
      have HC := Lib.hid hcell
      have HGL := Lib.hid (show g < x3.heap.size from hgl)
      have h5i : (ps.length : Int) = 5 := by omega
      have H5 := Lib.hid h5
      clear hcell hgl OS h5
      have HZ := Lib.hid (box_z x3)
      have kz := (Kept.refl x3).alloc (.cells z10 27)
      have kX := Lib.hid (kz.setRow (Nat.le_refl _) z10)
      have PZ := Lib.hid (show Pz w x3.heap.size g ps z10 ((x3.alloc (.cells z10 27)).setRow x3.heap.size z10) from
        ⟨K3.out.trans kX.out, (kX.out.block _ (by omega)).trans Y03.out, (kX.out.block _ hx1).trans Y13.out, setRow_heap _ _ _ _ _ _ HZ.out, Nat.lt_of_lt_of_le HGL.out kX.out.size, fun j p hj => (kX.out.cell (a := ⟨g, j, none⟩) HGL.out).trans (HC.out j p hj)⟩)
      clear kz kX Y03 Y13 K3 HC
      go_upto_region 8 with (refine wpList_store_row rfl 27 _ _ rfl x3.heap.size _ rfl rfl 27 _ HZ.out (by kernel_rfl) rfl (by simp [Value.oneCell']) ?_)
      generalize (x3.alloc (.cells z10 27)).setRow x3.heap.size z10 = X at *
      have hgm : g ≠ x3.heap.size := by have := HGL.out; omega
      clear HZ HGL h5i
      generalize x3.heap.size = m at *
      go_wp2_with fail
      go_loopw [7, 8, 9, 10, 11, 12, 13, 14, 15] (fun a _ _ _ _ _ _ _ _ y => RIn ps w m g a y) (fun a _ _ _ _ _ _ _ _ _ => 5 - (intOf a).toNat)
      case atStart => exact ⟨0, z10, [], by omega, rfl, rfl, by simp, PZ.out, rfl, fun j hj => absurd hj (by omega), fun j _ h2 => by
        rcases (show j = 0 ∨ j = 1 ∨ j = 2 ∨ j = 3 ∨ j = 4 by omega) with rfl | rfl | rfl | rfl | rfl <;> rfl⟩
      case round =>
        obtain ⟨k, cs, done, hk, rfl, hdl, hg, hP, h10, hF, hz⟩ := hrel
        by_cases hlt : k < 5
        · have hlti : (k : Int) < 5 := by omega
          obtain ⟨p, hp⟩ : ∃ p, ps[k]? = some p := ⟨_, List.getElem?_eq_getElem (by rw [H5.out]; exact hlt)⟩
          have cp := hP.sg k p hp
          have hpl : p.length ≤ 500 := Nat.le_trans (hps.out p (List.mem_of_getElem? hp)) hl
          have hlti2 : k < ps.length := by rw [H5.out]; exact hlt
          have HPK := Lib.hid hp; have HG := Lib.hid hg; have HF := Lib.hid hF; have HZ := Lib.hid hz; have HPz := Lib.hid hP
          clear hp hg hF hz hP
          go_wp2_with fail
          refine (rsplit_any 44 p _ (by omega)).mono ?_
          rintro e W ⟨v9, rfl, oq, kq⟩
          have PW := Lib.hid (HPz.out.kept kq)
          have FW := Lib.hid (show Fst ps (m + 1) k cs done W from fun j hj => by obtain ⟨v, a1, a2, a3⟩ := HF.out j hj; exact ⟨v, a1, a2.kept' kq, a3⟩)
          have hql := splt_len 44 p
          have HPRT := Lib.hid (show prt k p = (gat k (splt 44 p)).map (lst k) from rfl)
          have HQM := Lib.hid (fun t ht => (splt_mem (c := 44) p t ht).2)
          have hq0 : 0 < (splt 44 p).length := List.length_pos_iff.2 (splt_ne 44 p)
          obtain ⟨g9, c9, rfl, hc9⟩ := oq.at (k := 0) hq0
          have HC9 := Lib.hid hc9
          have HG9 := Lib.hid (show g9 < W.heap.size from lt_cell (hc9 0 _ (List.getElem?_eq_getElem hq0)))
          have hmW : m < W.heap.size := PW.out.lt
          clear oq hc9 kq HF HPz cp hq0
          generalize splt 44 p = qs at *
          have hlo := lo_bd k; have hhi := hi_bd k; have hwr := wr_bd k
          go_wp2_with fail
          go_loopw [8, 10, 11, 12, 13] (fun a i _ _ _ y => ∃ (t : Nat) (dn : List Int), t ≤ qs.length ∧ i = .int .i64 t ∧ dn.length ≤ 60 * t ∧ gat k qs = (gat k (qs.drop t)).map (fun l => dn ++ l) ∧ OutIn W.heap.size W dn a y) (fun _ i _ _ _ _ => qs.length - (intOf i).toNat)
          case atStart => exact ⟨0, [], Nat.zero_le _, rfl, by simp, by simp, none, 0, rfl, Out.nil _ _, Kept.refl _⟩
          case round =>
            obtain ⟨t, dn, ht, rfl, hdn, hgt, ao, cap, rfl, own, kp⟩ := hrel
            have Own := Lib.hid own; have KP := Lib.hid kp; have HGT := Lib.hid hgt
            clear own kp hgt
            by_cases hlt2 : t < qs.length
            · obtain ⟨u, hu⟩ : ∃ u, qs[t]? = some u := ⟨_, List.getElem?_eq_getElem hlt2⟩
              have cu := (KP.out.cell (a := ⟨g9, t, none⟩) HG9.out).trans (HC9.out t u hu)
              have hul : u.length ≤ 500 := Nat.le_trans (HQM.out u (List.mem_of_getElem? hu)) hpl
              have HGS := Lib.hid (gat_snoc (f := k) hu)
              have htli : (t : Int) < (qs.length : Int) := by omega
              clear hu
              go_wp2_with fail
              refine (rpiece_any k hlt u _ hul).mono ?_
              intro e x2 hp
              rcases hr : pc k u with _ | ⟨a, b, s⟩
              · rw [hr] at hp
                obtain ⟨rfl, k2⟩ := hp
                have HR := Lib.hid (show resP l = (zC, 2) from res_none h2 (by rw [HQ.out, HG.out, prsL_snocR k HPK.out, HPRT.out, HGT.out, HGS.out, hr]; rfl))
                have P2 := PW.out.kept (KP.out.trans k2)
                have B1 := Lib.hid P2.b1; have B0 := Lib.hid P2.b0; have K2 := Lib.hid P2.k
                clear P2 k2 cu
                go_wp2_with (first | refine wpList_load_row rfl 27 _ rfl (w.heap.size + 1) rfl 27 _ (0, 0) _ B1.out Tryz.underlying27 rfl (by kernel_rfl) ?_ | refine wpList_store_row rfl 27 _ _ rfl w.heap.size _ rfl rfl 27 _ B0.out (by kernel_rfl) rfl (by simp [Value.oneCell']) ?_)
                exact bodyPost_ret (v := .tuple #[.agg z10, .int .i64 2]) (rparse_results w.heap.size z10 2 _ _ rfl rfl rfl (setRow_heap _ _ _ _ _ _ B0.out)) rfl (rpost_z HR.out (K2.out.setRow (Nat.le_refl _) _))
              · rw [hr] at hp
                obtain ⟨v, rfl, ho, k2⟩ := hp
                obtain ⟨b1, b2, b3, b4, b5⟩ := pc_bd hr
                simp only at b1 b2 b3 b4 b5 ho
                have hxl := sq_len (b := b) b4 60 a (by omega)
                have hxne : 0 < (sq a b s).length := by rw [sq_step b4 b2]; simp
                have HXB := Lib.hid (show ∀ n ∈ sq a b s, lo k ≤ n ∧ n ≤ Crn.wr k from fun n hn => by have := sq_bd b4 hn; omega)
                have HGN := Lib.hid (show gat k qs = (gat k (qs.drop (t + 1))).map (fun l => (dn ++ (sq a b s).map (cnt k)) ++ l) by rw [HGT.out, HGS.out, hr]; simp [Option.map_map, Function.comp_def])
                obtain ⟨gA, o1, o2, o3⟩ := own_any (.slice ao dn.length cap) x2
                obtain ⟨gx, ox, cx, rfl, gxl, hxc⟩ := ho.rs.at (k := 0) hxne
                have hgx : gx ≠ gA := by
                  have h1 := ho.own_ge (g := gx) rfl
                  cases hob : (Value.slice ao dn.length cap).ownBlock with
                  | none => have := o2 hob; omega
                  | some g2 => have := o3 g2 hob; have := Own.out.lt g2 hob; omega
                have HXC := Lib.hid hxc; have O1 := Lib.hid o1
                have Own2 := Lib.hid (Own.out.kept' k2); have KP2 := Lib.hid (KP.out.trans k2)
                clear ho k2 hxc o1 o2 o3 b1 b2 b3 b4 b5 cu hr HGS HGT Own KP
                generalize sq a b s = L at *
                have hx0i : ((L.length : Int) == 0) = false := beq_eq_false_iff_ne.2 (by omega)
                have hx0j : ¬ (L.length : Int) = 0 := by omega
                go_wp2_with fail
                go_loopw [8, 12, 13] (fun q i _ y => ∃ j : Nat, j ≤ L.length ∧ i = .int .i64 j ∧ OutIn W.heap.size W (dn ++ (L.take j).map (cnt k)) q y ∧ Bar gA x2 y ∧ (∀ g, q.ownBlock = some g → g = gA ∨ x2.heap.size ≤ g)) (fun _ i _ _ => L.length - (intOf i).toNat)
                case atStart => exact ⟨0, Nat.zero_le _, rfl, by rw [List.take_zero, List.map_nil, List.append_nil]; exact ⟨ao, cap, rfl, Own2.out, KP2.out⟩, Bar.refl _ _, O1.out⟩
                case round =>
                  obtain ⟨j, hj, rfl, ⟨ao3, cap3, rfl, own3, kp3⟩, hb3, ho3⟩ := hrel
                  have Own3 := Lib.hid own3; have KP3 := Lib.hid kp3; have HB3 := Lib.hid hb3; have HO3 := Lib.hid ho3
                  clear own3 kp3 hb3 ho3
                  by_cases hlt3 : j < L.length
                  · obtain ⟨n, hn⟩ : ∃ n, L[j]? = some n := ⟨_, List.getElem?_eq_getElem hlt3⟩
                    have cn : wr.cell? ⟨gx, ox + j, none⟩ = some (.int .i64 n) := by
                      have := HXC.out j n hn
                      unfold World.cell? at this ⊢
                      rw [HB3.out.block gx gxl hgx]; exact this
                    have hlt3i : (j : Int) < (L.length : Int) := by omega
                    obtain ⟨n1, n2⟩ := HXB.out n (List.mem_of_getElem? hn)
                    have HT := Lib.hid (show dn ++ (L.take (j + 1)).map (cnt k) = (dn ++ (L.take j).map (cnt k)) ++ [cnt k n] by rw [List.take_add_one, hn]; simp)
                    have hdl3 : (dn ++ (L.take j).map (cnt k)).length ≤ 60 * t + 60 := by simp; omega
                    generalize dn ++ (L.take j).map (cnt k) = D at *
                    clear hn
                    by_cases k4 : k = 4
                    · have hk4 : ((k : Int) == 4) = true := by subst k4; rfl
                      by_cases n7 : n = 7
                      · have hn7 : (n == 7) = true := by subst n7; rfl
                        have HCN := Lib.hid (show cnt k n = 0 by subst k4; subst n7; rfl)
                        clear k4 n7
                        go_wp2_with (at_builtin; refine wpList_append_own_at _ rfl _ _ 23 rfl W.heap.size 3 i0 (.int .i64 0) 1 8 Tryz.underlying23 hi hz0 hz1 hz2 rfl (by decide) _ _ _ rfl (Own3.out.alloc _) ⟨wr.heap.size, 0, none⟩ 1 1 [.int .i64 0] rfl rfl (cell_one_new _ _ _) (fun x hx => by simp at hx; subst hx; rfl) (by unfold maxLen; omega) (by omega) (by have := KP3.out.size; simp; omega) ?_; intro v' w7 hown' hgrow hnil hob)
                        have HA := outIn_app (Nat.le_refl _) Own3.out KP3.out hgrow hown'
                        have HB := grow_bar HB3.out HO3.out hgrow hob
                        go_roundw
                        case rel => exact ⟨j + 1, hlt3, by go_num, by rw [HT.out, HCN.out]; exact HA, HB.1, HB.2⟩
                        case measure => simp [intOf]; omega
                      · have hn7 : (n == 7) = false := beq_eq_false_iff_ne.2 n7
                        have HCN := Lib.hid (show cnt k n = n by have h7 : Crn.wr k = 7 := (by subst k4; rfl); have h6 : Crn.hi k = 6 := (by subst k4; rfl); unfold cnt; rw [if_neg (by omega)])
                        clear k4 n7
                        go_wp2_with (at_builtin; refine wpList_append_own_at _ rfl _ _ 23 rfl W.heap.size 3 i0 (.int .i64 0) 1 8 Tryz.underlying23 hi hz0 hz1 hz2 rfl (by decide) _ _ _ rfl (Own3.out.alloc _) ⟨wr.heap.size, 0, none⟩ 1 1 [.int .i64 n] rfl rfl (cell_one_new _ _ _) (fun x hx => by simp at hx; subst hx; rfl) (by unfold maxLen; omega) (by omega) (by have := KP3.out.size; simp; omega) ?_; intro v' w7 hown' hgrow hnil hob)
                        have HA := outIn_app (Nat.le_refl _) Own3.out KP3.out hgrow hown'
                        have HB := grow_bar HB3.out HO3.out hgrow hob
                        go_roundw
                        case rel => exact ⟨j + 1, hlt3, by go_num, by rw [HT.out, HCN.out]; exact HA, HB.1, HB.2⟩
                        case measure => simp [intOf]; omega
                    · have hk4 : ((k : Int) == 4) = false := beq_eq_false_iff_ne.2 (by omega)
                      have HCN := Lib.hid (show cnt k n = n by have := wr_hi k k4; unfold cnt; rw [if_neg (by omega)])
                      clear k4
                      go_wp2_with (at_builtin; refine wpList_append_own_at _ rfl _ _ 23 rfl W.heap.size 3 i0 (.int .i64 0) 1 8 Tryz.underlying23 hi hz0 hz1 hz2 rfl (by decide) _ _ _ rfl (Own3.out.alloc _) ⟨wr.heap.size, 0, none⟩ 1 1 [.int .i64 n] rfl rfl (cell_one_new _ _ _) (fun x hx => by simp at hx; subst hx; rfl) (by unfold maxLen; omega) (by omega) (by have := KP3.out.size; simp; omega) ?_; intro v' w7 hown' hgrow hnil hob)
                      have HA := outIn_app (Nat.le_refl _) Own3.out KP3.out hgrow hown'
                      have HB := grow_bar HB3.out HO3.out hgrow hob
                      go_roundw
                      case rel => exact ⟨j + 1, hlt3, by go_num, by rw [HT.out, HCN.out]; exact HA, HB.1, HB.2⟩
                      case measure => simp [intOf]; omega
                  · obtain rfl : j = L.length := by omega
                    have HE2 := Lib.hid (show dn ++ (L.take L.length).map (cnt k) = dn ++ L.map (cnt k) by rw [List.take_length])
                    have HE := Lib.hid (show OutIn W.heap.size W (dn ++ L.map (cnt k)) (.slice ao3 (dn ++ (L.take L.length).map (cnt k)).length cap3) wr by
                      have O := Own3.out
                      rw [HE2.out] at O ⊢
                      exact ⟨ao3, cap3, rfl, O, KP3.out⟩)
                    have hdl4 : (dn ++ L.map (cnt k)).length ≤ 60 * (t + 1) := by simp; omega
                    go_wp2
                    go_roundw
                    case rel => exact ⟨t + 1, dn ++ L.map (cnt k), hlt2, by go_num, hdl4, HGN.out, HE.out⟩
                    case measure => simp [intOf]; omega
            · have HGA := Lib.hid (show gat k qs = some dn by rw [HGT.out, List.drop_eq_nil_of_le (by omega)]; simp [gat])
              have HPR := Lib.hid (show prt k p = some (lst k dn) by rw [HPRT.out, HGA.out]; rfl)
              have hte : t = qs.length := by omega
              have P3 := Lib.hid (PW.out.kept KP.out)
              have F3 := Lib.hid (show Fst ps (m + 1) k cs done wr from fun j hj => by obtain ⟨v, a1, a2, a3⟩ := FW.out j hj; exact ⟨v, a1, a2.kept' KP.out, a3⟩)
              have hm3 : m < wr.heap.size := P3.out.lt
              clear HGT HPRT HQM HC9 HG9 PW FW KP
              go_wp2_with fail
              refine (low_any k hlt _).mono ?_
              rintro e y3 ⟨rfl, rfl⟩
              generalize hW3 : wr = W3 at *
              clear hW3
              go_wp2_with fail
              go_loopw [14, 15] (fun i _ y => ∃ (n : Int) (sf : List Int) (v : Value), i = .int .i64 n ∧ lo k ≤ n ∧ n ≤ Crn.hi k + 1 ∧ (sf.length : Int) ≤ n - lo k ∧ lst k dn = sf ++ pick dn (Crn.hi k + 1 - n).toNat n ∧ Bar m W3 y ∧ y.heap[m]? = some (.cells (cs.setIfInBounds k v) 27) ∧ (∃ ao cap, v = .slice ao sf.length cap) ∧ Out W3.heap.size v sf y) (fun i _ _ => (Crn.hi k + 1 - intOf i).toNat)
              case atStart => exact ⟨lo k, [], .slice none 0 0, rfl, Int.le_refl _, by omega, by simp, rfl, Bar.refl _ _, by rw [set_same (HZ.out k (Nat.le_refl _) hlt)]; exact P3.out.bm, ⟨none, 0, rfl⟩, Out.nil _ _⟩
              case round =>
                obtain ⟨n, sf, v, rfl, n1, n2, n3, hpk, hb, hbm, ⟨ao3, cap3, rfl⟩, ho⟩ := hrel
                have HP3 := Lib.hid hpk; have HB := Lib.hid hb; have HBM := Lib.hid hbm; have HO := Lib.hid ho
                clear hpk hb hbm ho
                go_wp2_with fail
                refine (high_any k hlt _).mono ?_
                rintro e y3 ⟨rfl, rfl⟩
                by_cases hle : n ≤ Crn.hi k
                · have HN := Lib.hid (pick_next (all := dn) hle)
                  have RA := Lib.hid (Own.out.bar HB.out hmW).rs
                  go_wp2_with fail
                  refine (rhas_any _ dn n _ RA.out).mono ?_
                  rintro e y3 ⟨rfl, rfl⟩
                  cases hh : dn.contains n with
                  | false =>
                    have HS := Lib.hid (show lst k dn = sf ++ pick dn (Crn.hi k + 1 - (n + 1)).toNat (n + 1) by rw [HP3.out, HN.out, if_neg (by rw [hh]; decide)])
                    clear hh HN
                    go_wp2
                    go_roundw
                    case rel => exact ⟨n + 1, sf, .slice ao3 sf.length cap3, by go_num, by omega, by omega, by omega, HS.out, HB.out, HBM.out, ⟨ao3, cap3, rfl⟩, HO.out⟩
                    case measure => simp [intOf]; omega
                  | true =>
                    have HS := Lib.hid (show lst k dn = (sf ++ [n]) ++ pick dn (Crn.hi k + 1 - (n + 1)).toNat (n + 1) by rw [HP3.out, HN.out, if_pos hh]; simp)
                    have ck := cell_of (j := k) HBM.out (show (cs.setIfInBounds k (.slice ao3 sf.length cap3))[k]? = some (.slice ao3 sf.length cap3) from Array.getElem?_setIfInBounds_self_of_lt (by omega))
                    have hsfl : sf.length ≤ 60 := by omega
                    clear hh HN
                    go_wp2_with (at_builtin; refine wpList_append_own _ rfl _ _ 23 rfl W3.heap.size 3 i0 (.int .i64 0) 1 8 Tryz.underlying23 hi hz0 hz1 hz2 rfl (by decide) _ _ _ rfl (HO.out.alloc _) ⟨wr.heap.size, 0, none⟩ 1 1 [.int .i64 n] rfl rfl (cell_one_new _ _ _) (fun x hx => by simp at hx; subst hx; rfl) (by unfold maxLen; omega) (by omega) (by have := HB.out.size; simp; omega) ?_; intro v' w7 hown' hgrow hnil; obtain ⟨⟨ao4, cap4, rfl⟩, ha2, ha3, ha4⟩ := bar_app (Nat.le_refl _) hm3 HO.out HB.out hgrow hown'; have c7 := cell_of (j := k) (ha4.trans HBM.out) (Array.getElem?_setIfInBounds_self_of_lt (by omega)); have g7 := fro_of (ha4.trans HBM.out) k; have B7 := Lib.hid (ha4.trans HBM.out); have A2 := Lib.hid ha2; have A3 := Lib.hid ha3; clear ha2 ha3 ha4 hown' hgrow hnil)
                    go_roundw
                    case rel => exact ⟨n + 1, sf ++ [n], .slice ao4 (sf ++ [n]).length cap4, by go_num, by omega, by omega, by simp; omega, HS.out, A3.out.set k _, (block_set B7.out _).trans (by rw [set_set]; simp), ⟨ao4, cap4, rfl⟩, A2.out.bar ((Bar.refl m w7).set k _) hm3⟩
                    case measure => simp [intOf]; omega
                · have HS := Lib.hid (show lst k dn = sf by rw [HP3.out, pick_done (by omega), List.append_nil])
                  have P4 := Lib.hid (P3.out.bar hx1 hgm HB.out HBM.out)
                  have F4 := Lib.hid (fst_bar (cs' := cs.setIfInBounds k (.slice ao3 sf.length cap3)) F3.out HB.out (fun j hj => ⟨Array.getElem?_setIfInBounds_ne (by omega), Array.getElem?_setIfInBounds_ne (by omega)⟩))
                  have O4 := Lib.hid (HO.out.mono (show m + 1 ≤ W3.heap.size from hm3))
                  have hkk : (cs.setIfInBounds k (.slice ao3 sf.length cap3))[k]? = some (.slice ao3 sf.length cap3) := Array.getElem?_setIfInBounds_self_of_lt (by omega)
                  have h106 : (cs.setIfInBounds k (.slice ao3 sf.length cap3)).size = 10 := by simpa using h10
                  have Z6 := Lib.hid (show ∀ j, k + 1 ≤ j → j < 5 → (cs.setIfInBounds k (.slice ao3 sf.length cap3))[j]? = some (.slice none 0 0) from fun j j1 j2 => by rw [Array.getElem?_setIfInBounds_ne (by omega)]; exact HZ.out j (by omega) j2)
                  have cp4 := P4.out.sg k p HPK.out
                  clear HB HBM HO F3 P3 PZ
                  generalize cs.setIfInBounds k (.slice ao3 sf.length cap3) = cs6 at *
                  obtain ⟨old2, hold2⟩ : ∃ old, cs6[5 + k]? = some old := ⟨_, Array.getElem?_eq_getElem (by omega)⟩
                  have c5 := cell_of P4.out.bm hold2
                  have g5 := fro_of P4.out.bm (5 + k)
                  have HFin := Lib.hid (show ∀ b : Bool, b = decide (p = [42]) → RIn ps w m g (.int .i64 ((k : Int) + 1)) (wr.setCell ⟨m, 5 + k, none⟩ (.bool b)) from fun b hb => by
                    refine ⟨k + 1, cs6.setIfInBounds (5 + k) (.bool b), done ++ [sf], by omega, by go_num, by simp [hdl], by rw [HG.out, prsL_snocR k HPK.out, HPR.out, HS.out]; simp [Option.map_map, Function.comp_def], P4.out.putm hx1 hgm (5 + k) _, by simpa using h106, fun j hj => ?_, fun j j1 j2 => by rw [Array.getElem?_setIfInBounds_ne (by omega)]; exact Z6.out j j1 j2⟩
                    by_cases hjk : j = k
                    · subst hjk
                      refine ⟨_, by rw [Array.getElem?_setIfInBounds_ne (by omega)]; exact hkk, ?_, ?_⟩
                      · rw [show (done ++ [sf]).getD j [] = sf by rw [← hdl]; simp]
                        exact O4.out.bar ((Bar.refl m wr).set _ _) (by omega)
                      · rw [Array.getElem?_setIfInBounds_self_of_lt (by omega), hb]
                        rw [show ps.getD j [] = p by simp [List.getD, HPK.out]]
                    · obtain ⟨v, a1, a2, a3⟩ := F4.out j (by omega)
                      refine ⟨v, by rw [Array.getElem?_setIfInBounds_ne (by omega)]; exact a1, ?_, by rw [Array.getElem?_setIfInBounds_ne (by omega)]; exact a3⟩
                      rw [show (done ++ [sf]).getD j [] = done.getD j [] by simp [List.getD, List.getElem?_append_left (show j < done.length by omega)]]
                      exact a2.bar ((Bar.refl m wr).set _ _) (by omega))
                  clear hkk F4 O4 Z6 P4 hold2
                  by_cases h42 : p = [42]
                  · have hb := Lib.hid (decide_eq_true h42)
                    rw [h42] at cp4
                    go_wp2
                    go_roundw
                    case rel => exact HFin.out _ (by rw [hb.out])
                    case measure => simp [intOf]; omega
                  · have hb := Lib.hid (decide_eq_false h42)
                    have h42' : (p == [42]) = false := beq_eq_false_iff_ne.2 h42
                    have h42b : ¬ (⟨p.toArray⟩ : ByteArray) = ⟨#[42]⟩ := fun e => h42 (by injection e with e; injection e)
                    go_wp2
                    go_roundw
                    case rel => exact HFin.out _ (by rw [hb.out])
                    case measure => simp [intOf]; omega
        · obtain rfl : k = 5 := by omega
          have hpg : prsL 0 ps = some done := by rw [hg, List.drop_eq_nil_of_le (by rw [H5.out]; omega)]; simp [prsL]
          have HR := Lib.hid (res_some h2 (show prs l = some (crOf done ps) by rw [HQ.out, hpg]; rfl))
          obtain ⟨sl, hcs, hO⟩ := fst5 hF h10
          subst hcs
          have HO := Lib.hid hO
          have ho := cr_ones (crOf done ps).st (fun i hi => (hO i hi).rs)
          have BM := Lib.hid hP.bm; have B0 := Lib.hid hP.b0; have KP := Lib.hid hP.k
          clear hg hF hP hz hO hpg
          go_wp2_with (first | refine wpList_load_row rfl 27 _ rfl m rfl 27 _ (0, 0) _ BM.out Tryz.underlying27 rfl (by kernel_rfl) ?_ | refine wpList_store_row rfl 27 _ _ rfl w.heap.size _ rfl rfl 27 _ B0.out (by kernel_rfl) rfl ho ?_)
          refine bodyPost_ret (v := .tuple #[crV sl (crOf done ps).st, .int .i64 0]) (rparse_results w.heap.size (cr10 sl (crOf done ps).st) 0 _ _ rfl rfl rfl (setRow_heap _ _ _ _ _ _ B0.out)) rfl ?_
          unfold RPost
          rw [HR.out]
          exact ⟨sl, rfl, fun i hi => ((HO.out i hi).bar (Bar.row _ _ _) (by omega)).rs, KP.out.setRow (Nat.le_refl _) _⟩
    · have HR := Lib.hid (res_none h2 (by rw [HP.out, if_neg h5]))
      have h5i : ¬ (ps.length : Int) = 5 := by omega
      go_wp2_with (first | refine wpList_load_row rfl 27 _ rfl (w.heap.size + 1) rfl 27 _ (0, 0) _ Y13.out Tryz.underlying27 rfl (by kernel_rfl) ?_ | refine wpList_store_row rfl 27 _ _ rfl w.heap.size _ rfl rfl 27 _ Y03.out (by kernel_rfl) rfl (by simp [Value.oneCell']) ?_)
      exact bodyPost_ret (v := .tuple #[.agg z10, .int .i64 2]) (rparse_results w.heap.size z10 2 _ _ rfl rfl rfl (setRow_heap _ _ _ _ _ _ Y03.out)) rfl (rpost_z HR.out (K3.out.setRow (Nat.le_refl _) _))
end Go.Proofs.YtcmdjpgabkjbpaaGreatDoor
