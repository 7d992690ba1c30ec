/- Appends to a slice that has no room; a list cut in two; bytes that lie in older blocks. -/
import Derived.Test.YtdhhlcgmkkpldaaGreatDoorBxB
import Derived.Test.YtdhhlcgmkkpldaaGreatDoorBxPure
import Derived.Deep.Cut
import Derived.Deep.QuietTactic
import Derived.BigQuiet
import Derived.RegionTactic
import Derived.ChangeAlike
set_option linter.unusedSimpArgs false
set_option linter.unusedVariables false
namespace Go.Proofs.YtdhhlcgmkkpldaaGreatDoor
open Go.ChangeShapes Go.WideShapes Go.ChangeAt Go.RowKit
theorem brd_more (w : World) (l : B) (t : TypeId) (cs : Array Value) (h : ∀ (i : Nat) (x : UInt8), l[i]? = some x → cs[i]? = some (.int .u8 x.toNat)) (c : Nat) (hc : l.length ≤ c) (m : Nat × Nat) : BRd (.slice (some ⟨w.heap.size, 0, none⟩) l.length c) l (w.alloc (.cells cs t m)) :=
  ⟨_, _, rfl, fun e => (by cases e), fun _ => ⟨_, _, rfl, hc, fun i x hx => by
    rw [Nat.zero_add]
    simp [World.cell?, World.alloc, -World.alloc_eq, h i x hx]⟩⟩
/-- bytes more, behind those of a slice that has no more room -/
theorem wp_fullB {op : Oper} {a : Act} {w : World} {K : Act → World → Prop} {Q : Exit → Act → World → Prop} (sx x : Operand) (ho : op.op = .call { callee := .builtin .append, args := #[sx, x], argTypes := #[22, 22] })
    (g o : Nat) (xv : Value) (l t : B) (hs : a.eval sx = .slice (some ⟨g, o, none⟩) l.length l.length) (hL : BRd (.slice (some ⟨g, o, none⟩) l.length l.length) l w) (hx : a.eval x = xv) (hR : BRd xv t w) (hne : l ≠ []) (hl : l.length + t.length ≤ 100000000000000)
    (h : ∀ v' w', BRd v' (l ++ t) w' → Kept w w' → K (a.put op.dst v') w') : op.wp Tryz.prog a w K Q := by
  obtain ⟨i0, hi, hz0, hz1, hz2⟩ := info_parts info8
  by_cases ht : t = []
  · subst ht
    obtain ⟨ad, c, rfl, hz, _⟩ := hR
    have hrun : (Builtin.append_ #[22, 22] op.type #[.slice (some ⟨g, o, none⟩) l.length l.length, .slice ad 0 c]).run Tryz.prog w = .ok (.slice (some ⟨g, o, none⟩) l.length l.length) w := by
      cases ad <;> simp [Builtin.append_, run_underlying Tryz.underlying22, sizeOf, typeInfo, hi, Builtin.lenOf, Builtin.firstCells, loadCells, loadCellsFrom, storeCells]
    have hK := h _ w (by rw [List.append_nil]; exact hL) (Kept.refl w)
    unfold Oper.wp execOp
    simp only [ho, resolve, invoke, builtin, Sem.run_bind, Sem.run_pure, Result.andThen_ok, List.map_toArray, List.map_cons, List.map_nil, hs, hx, List.length_nil, hrun]
    exact hK
  · obtain ⟨ad, c, rfl, hz, hR⟩ := hR
    obtain ⟨g2, o2, rfl, hc2, hcell⟩ := hR ht
    obtain ⟨ad1, c1, hv1, _, hL⟩ := hL
    obtain ⟨g1, o1, he, hc1, hcell1⟩ := hL hne
    cases hv1
    cases he
    have hlt := List.length_pos_iff.2 ht
    have holds : ∀ (j : Nat) v, (byteCells l)[j]? = some v → w.cell? ((⟨g, o, none⟩ : Addr).add j) = some v := fun j v hj => by
      simp only [byteCells, List.getElem?_map, Option.map_eq_some_iff] at hj
      obtain ⟨b, hb, rfl⟩ := hj
      rw [Addr.add_lit]; exact hcell1 j b hb
    have hnews : ∀ (j : Nat) v, (byteCells t)[j]? = some v → w.cell? ((⟨g2, o2, none⟩ : Addr).add j) = some v := fun j v hj => by
      simp only [byteCells, List.getElem?_map, Option.map_eq_some_iff] at hj
      obtain ⟨b, hb, rfl⟩ := hj
      rw [Addr.add_lit]; exact hcell j b hb
    have hrun := run_append_grow (P := Tryz.prog) (w := w) 22 op.type 5 i0 (.int .u8 0) Tryz.underlying22 hi hz0 ⟨g, o, none⟩ l.length l.length (byteCells l) (by rw [hz1]; simp) holds ⟨g2, o2, none⟩ t.length c (byteCells t) (by rw [hz1]; simp) hnews (by omega) (by omega) (growslice_fits (by omega) (by rw [hz2]; omega))
    have hge := grownCap_ge w (l.length + t.length) l.length 5
    generalize grownCap w (l.length + t.length) l.length 5 = cap at *
    have hB := brd_more w.drew (l ++ t) 5 ((byteCells l).toArray ++ (byteCells t).toArray ++ Builtin.zeroCells (Value.cells (.int .u8 0)) (cap - (l.length + t.length))) (fun i b hb => by
      have hb' : i < (l ++ t).length := (List.getElem?_eq_some_iff.1 hb).1
      have hq : (byteCells l ++ byteCells t)[i]? = some (.int .u8 b.toNat) := by
        rw [← byteCells_app]; unfold byteCells; rw [List.getElem?_map, hb]; rfl
      rw [Array.getElem?_append_left (by simpa using hb'), List.append_toArray, List.getElem?_toArray]
      exact hq) cap (by simpa using hge) (0, 0)
    have hK := h _ _ hB ((Kept.refl w).drew.alloc _)
    rw [List.length_append] at hK
    unfold Oper.wp execOp
    simp only [ho, resolve, invoke, builtin, Sem.run_bind, Sem.run_pure, Result.andThen_ok, List.map_toArray, List.map_cons, List.map_nil, hs, hx, hrun]
    exact hK
theorem wpList_fullB {ops : Array Oper} {rest : List Oper} {op : Oper} {a : Act} {w : World} {Q : Exit → Act → World → Prop} (hg : op.guard = none) (sx x : Operand) (ho : op.op = .call { callee := .builtin .append, args := #[sx, x], argTypes := #[22, 22] })
    (g o : Nat) (xv : Value) (l t : B) (hs : a.eval sx = .slice (some ⟨g, o, none⟩) l.length l.length) (hL : BRd (.slice (some ⟨g, o, none⟩) l.length l.length) l w) (hx : a.eval x = xv) (hR : BRd xv t w) (hne : l ≠ []) (hl : l.length + t.length ≤ 100000000000000)
    (h : ∀ v' w', BRd v' (l ++ t) w' → Kept w w' → wpList Tryz.prog ops Q rest (a.put op.dst v') w') : wpList Tryz.prog ops Q (op :: rest) a w :=
  wpList_plain hg fun K hK => wp_fullB sx x ho g o xv l t hs hL hx hR hne hl (fun v' w' h1 h2 => hK _ _ (h v' w' h1 h2))
/-- a text more, behind the bytes of a slice that has no more room -/
theorem wp_fullS {op : Oper} {a : Act} {w : World} {K : Act → World → Prop} {Q : Exit → Act → World → Prop} (sx x : Operand) (ho : op.op = .call { callee := .builtin .append, args := #[sx, x], argTypes := #[22, 9] })
    (g o : Nat) (l t : B) (hs : a.eval sx = .slice (some ⟨g, o, none⟩) l.length l.length) (hL : BRd (.slice (some ⟨g, o, none⟩) l.length l.length) l w) (hx : a.eval x = sV t) (hne : l ≠ []) (ht : t ≠ []) (hl : l.length + t.length ≤ 100000000000000)
    (h : ∀ v' w', BRd v' (l ++ t) w' → Kept w w' → K (a.put op.dst v') w') : op.wp Tryz.prog a w K Q := by
  obtain ⟨i0, hi, hz0, hz1, hz2⟩ := info_parts info8
  obtain ⟨ad1, c1, hv1, _, hL⟩ := hL
  obtain ⟨g1, o1, he, hc1, hcell1⟩ := hL hne
  cases hv1
  cases he
  have hlt := List.length_pos_iff.2 ht
  have hsz : (ByteArray.mk t.toArray).size = t.length := List.size_toArray
  have holds : ∀ (j : Nat) v, (byteCells l)[j]? = some v → w.cell? ((⟨g, o, none⟩ : Addr).add j) = some v := fun j v hj => by
    simp only [byteCells, List.getElem?_map, Option.map_eq_some_iff] at hj
    obtain ⟨b, hb, rfl⟩ := hj
    rw [Addr.add_lit]; exact hcell1 j b hb
  have hrun := Lib.run_append_grow_string (P := Tryz.prog) (w := w) 22 9 op.type 5 i0 (.int .u8 0) Tryz.underlying22 Tryz.underlying9 hi hz0 ⟨g, o, none⟩ l.length l.length (byteCells l) (by rw [hz1]; simp) holds ⟨t.toArray⟩ (by rw [hsz]; omega) (by rw [hsz]; omega) (by rw [hsz]; exact growslice_fits (by omega) (by rw [hz2]; omega))
  rw [hsz, str_cells] at hrun
  have hge := grownCap_ge w (l.length + t.length) l.length 5
  generalize grownCap w (l.length + t.length) l.length 5 = cap at *
  have hB := brd_more w.drew (l ++ t) 5 ((byteCells l).toArray ++ (byteCells t).toArray ++ Builtin.zeroCells (Value.cells (.int .u8 0)) (cap - (l.length + t.length))) (fun i b hb => by
    have hb' : i < (l ++ t).length := (List.getElem?_eq_some_iff.1 hb).1
    have hq : (byteCells l ++ byteCells t)[i]? = some (.int .u8 b.toNat) := by
      rw [← byteCells_app]; unfold byteCells; rw [List.getElem?_map, hb]; rfl
    rw [Array.getElem?_append_left (by simpa using hb'), List.append_toArray, List.getElem?_toArray]
    exact hq) cap (by simpa using hge) (0, 0)
  have hK := h _ _ hB ((Kept.refl w).drew.alloc _)
  rw [List.length_append] at hK
  unfold Oper.wp execOp
  simp only [ho, resolve, invoke, builtin, Sem.run_bind, Sem.run_pure, Result.andThen_ok, List.map_toArray, List.map_cons, List.map_nil, hs, hx, hrun]
  exact hK
theorem wpList_fullS {ops : Array Oper} {rest : List Oper} {op : Oper} {a : Act} {w : World} {Q : Exit → Act → World → Prop} (hg : op.guard = none) (sx x : Operand) (ho : op.op = .call { callee := .builtin .append, args := #[sx, x], argTypes := #[22, 9] })
    (g o : Nat) (l t : B) (hs : a.eval sx = .slice (some ⟨g, o, none⟩) l.length l.length) (hL : BRd (.slice (some ⟨g, o, none⟩) l.length l.length) l w) (hx : a.eval x = sV t) (hne : l ≠ []) (ht : t ≠ []) (hl : l.length + t.length ≤ 100000000000000)
    (h : ∀ v' w', BRd v' (l ++ t) w' → Kept w w' → wpList Tryz.prog ops Q rest (a.put op.dst v') w') : wpList Tryz.prog ops Q (op :: rest) a w :=
  wpList_plain hg fun K hK => wp_fullS sx x ho g o l t hs hL hx hne ht hl (fun v' w' h1 h2 => hK _ _ (h v' w' h1 h2))
theorem sV_eq {a b : B} : sV a = sV b ↔ a = b := by
  constructor
  · intro h; injection h with h; injection h with h; simpa using h
  · rintro rfl; rfl
theorem ba_eq (a b : B) : (decide ((⟨a.toArray⟩ : ByteArray) = ⟨b.toArray⟩)) = decide (a = b) := by
  refine decide_eq_decide.2 ⟨fun h => ?_, fun h => by rw [h]⟩
  injection h with h; simpa using h
/-- bytes that are read, and lie below a place -/
def BOld (B0 : Nat) (v : Value) (l : B) (w : World) : Prop := BRd v l w ∧ (l ≠ [] → ∀ g, v.ownBlock = some g → g < B0)
theorem BOld.of {v : Value} {l : B} {w : World} (h : BRd v l w) : BOld w.heap.size v l w := ⟨h, fun hne => h.old hne⟩
theorem BOld.kept {B0 : Nat} {v : Value} {l : B} {w w' : World} (h : BOld B0 v l w) (k : Kept w w') : BOld B0 v l w' := ⟨h.1.kept k, h.2⟩
theorem BOld.grow {B0 : Nat} {v : Value} {l : B} {y z : World} {row : Option Nat} (h : BOld B0 v l y) (hg : y.grownBy z row) (hr : ∀ r, row = some r → B0 ≤ r) : BOld B0 v l z := by
  refine ⟨?_, h.2⟩
  by_cases hl : l = []
  · subst hl
    obtain ⟨a, c, hv, hz, _⟩ := h.1
    exact ⟨a, c, hv, hz, fun hne => absurd rfl hne⟩
  · refine h.1.grow hg (fun r hrow e => ?_)
    have h1 := h.2 hl r e
    have h2 := hr r hrow
    omega
theorem BRd.any {a : Option Addr} {c : Nat} {w : World} (h : a = none → c = 0) : BRd (.slice a 0 c) [] w := ⟨a, c, rfl, h, fun hne => absurd rfl hne⟩
/-- the first bytes, with no room behind them -/
theorem BRd.full {g o n c : Nat} {l : B} {w : World} (h : BRd (.slice (some ⟨g, o, none⟩) n c) l w) (j : Nat) (hj : j ≤ l.length) : BRd (.slice (some ⟨g, o, none⟩) j j) (l.take j) w := by
  obtain ⟨a, c', hv, _, h⟩ := h
  cases hv
  have hlen : (l.take j).length = j := by simp; omega
  refine ⟨some ⟨g, o, none⟩, j, by rw [hlen], fun e => (by cases e), fun hne => ?_⟩
  obtain ⟨g', o', ha, hc, h⟩ := h (by rintro rfl; simp at hne)
  cases ha
  refine ⟨g, o, rfl, by rw [hlen]; exact Nat.le_refl _, fun k x hx => ?_⟩
  rw [List.getElem?_take] at hx
  split at hx
  · exact h _ _ hx
  · cases hx
set_option maxRecDepth 100000 in
set_option maxHeartbeats 1000000 in
theorem cut_any (g o n c : Nat) (l : B) (w : World) (hR : BRd (.slice (some ⟨g, o, none⟩) l.length c) l w) (hne : l ≠ []) (hn : 1 ≤ n) (hn2 : n ≤ 1000) (hl : l.length ≤ maxLen) :
    Calls Tryz.prog 71 #[.slice (some ⟨g, o, none⟩) l.length c, iV n] w fun e w' => ∃ yv, e = .returned (.tuple #[.slice (some ⟨g, o, none⟩) (l.take n).length (l.take n).length, yv]) ∧ Kept w w' ∧ BRd yv (l.drop n) w ∧ yv.ownBlock = some g := by
  unfold maxLen at hl
  have HR := Lib.hid hR
  obtain ⟨_, _, hv, _, hcc⟩ := hR
  have hc : l.length ≤ c := by
    obtain ⟨_, _, ha, h, _⟩ := hcc hne
    cases hv; exact h
  have hpos := List.length_pos_iff.2 hne
  clear hv hcc
  by_cases h : (l.length : Int) < n
  · have HT := Lib.hid (show (l.take n).length = l.length by simp; omega)
    have HD := Lib.hid (show l.drop n = [] by rw [List.drop_eq_nil_iff]; omega)
    have hz : (0 : Int) ≤ l.length := by omega
    have hlc : (l.length : Int) ≤ c := by omega
    rw [HT.out, HD.out]
    go_enter Tryz.func71, Tryz.ntmps71
    go_wp2
    go_quiet (fail)
    go_wp2
    all_goals
      go_ret2
      exact ⟨_, rfl, (Kept.refl w).drewN nq, BRd.any (fun e => by cases e), rfl⟩
  · have HT := Lib.hid (show (l.take n).length = n by simp; omega)
    have HS := Lib.hid (HR.out.sub n l.length (by omega) (Nat.le_refl _))
    rw [List.take_length] at HS
    have HE := Lib.hid (fun hq : c = n => show l.drop n = [] by rw [List.drop_eq_nil_iff]; omega)
    have hz : (0 : Int) ≤ n := by omega
    have hnl : (n : Int) ≤ l.length := by omega
    have hnc : (n : Int) ≤ c := by omega
    rw [HT.out]
    have he : ((l.length - n : Nat) : Int) = (l.length : Int) - n := by omega
    generalize l.drop n = r at *
    by_cases hcn : c = n
    · have hlen : l.length - n = 0 := by omega
      obtain rfl := HE.out hcn
      go_enter Tryz.func71, Tryz.ntmps71
      go_wp2
      go_quiet (fail)
      go_wp2
      go_ret2
      exact ⟨_, rfl, (Kept.refl w).drewN nq, BRd.any (fun e => by cases e), rfl⟩
    · go_enter Tryz.func71, Tryz.ntmps71
      go_wp2
      go_quiet (fail)
      go_wp2
      go_ret2
      exact ⟨_, rfl, (Kept.refl w).drewN nq, HS.out, rfl⟩
end Go.Proofs.YtdhhlcgmkkpldaaGreatDoor
