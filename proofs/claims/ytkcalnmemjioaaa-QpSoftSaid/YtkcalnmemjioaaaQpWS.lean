/- A soft break ahead of bytes, or behind them, changes nothing. -/
import Derived.Test.YtkcalnmemjioaaaQpAw
import Derived.Lib.SlBytesConst
set_option linter.unusedSimpArgs false
set_option linter.unusedVariables false
namespace Go.Proofs.Ytkcalnmemjioaaa
open Go.ChangeShapes Go.WideShapes Go.ChangeAt Go.RowKit
open Qp
theorem brd_more (w : World) (l : B) (t : TypeId) (cs : Array Value) (h : ∀ (i : Nat) (x : UInt8), l[i]? = some x → cs[i]? = some (.int .u8 x.toNat)) (c : Nat) (hc : l.length ≤ c) (m : Nat × Nat) : BRd (.slice (some ⟨w.heap.size, 0, none⟩) l.length c) l (w.alloc (.cells cs t m)) :=
  ⟨_, _, rfl, fun e => (by cases e), fun _ => ⟨_, _, rfl, hc, fun i x hx => by
    rw [Nat.zero_add]
    simp [World.cell?, World.alloc, -World.alloc_eq, h i x hx]⟩⟩
/-- bytes more, behind those of a slice that has no more room -/
theorem wp_fullB {op : Oper} {a : Act} {w : World} {K : Act → World → Prop} {Q : Exit → Act → World → Prop} (sx x : Operand) (ho : op.op = .call { callee := .builtin .append, args := #[sx, x], argTypes := #[22, 22] })
    (g : Nat) (xv : Value) (l t : B) (hs : a.eval sx = .slice (some ⟨g, 0, none⟩) l.length l.length) (hL : BRd (.slice (some ⟨g, 0, none⟩) l.length l.length) l w) (hx : a.eval x = xv) (hR : BRd xv t w) (hne : l ≠ []) (hl : l.length + t.length ≤ 100000000000000)
    (h : ∀ v' w', BRd v' (l ++ t) w' → Kept w w' → K (a.put op.dst v') w') : op.wp Try.prog a w K Q := by
  obtain ⟨i0, hi, hz0, hz1, hz2⟩ := info_parts info8
  by_cases ht : t = []
  · subst ht
    obtain ⟨ad, c, rfl, hz, _⟩ := hR
    have hrun : (Builtin.append_ #[22, 22] op.type #[.slice (some ⟨g, 0, none⟩) l.length l.length, .slice ad 0 c]).run Try.prog w = .ok (.slice (some ⟨g, 0, none⟩) l.length l.length) w := by
      cases ad <;> simp [Builtin.append_, run_underlying Try.underlying22, sizeOf, typeInfo, hi, Builtin.lenOf, Builtin.firstCells, loadCells, loadCellsFrom, storeCells]
    have hK := h _ w (by rw [List.append_nil]; exact hL) (Kept.refl w)
    unfold Oper.wp execOp
    simp only [ho, resolve, invoke, builtin, Sem.run_bind, Sem.run_pure, Result.andThen_ok, List.map_toArray, List.map_cons, List.map_nil, hs, hx, List.length_nil, hrun]
    exact hK
  · obtain ⟨ad, c, rfl, hz, hR⟩ := hR
    obtain ⟨g2, o2, rfl, hc2, hcell⟩ := hR ht
    obtain ⟨ad1, c1, hv1, _, hL⟩ := hL
    obtain ⟨g1, o1, he, hc1, hcell1⟩ := hL hne
    cases hv1
    cases he
    have hlt := List.length_pos_iff.2 ht
    have holds : ∀ (j : Nat) v, (byteCells l)[j]? = some v → w.cell? ((⟨g, 0, none⟩ : Addr).add j) = some v := fun j v hj => by
      simp only [byteCells, List.getElem?_map, Option.map_eq_some_iff] at hj
      obtain ⟨b, hb, rfl⟩ := hj
      rw [Addr.add_lit]; exact hcell1 j b hb
    have hnews : ∀ (j : Nat) v, (byteCells t)[j]? = some v → w.cell? ((⟨g2, o2, none⟩ : Addr).add j) = some v := fun j v hj => by
      simp only [byteCells, List.getElem?_map, Option.map_eq_some_iff] at hj
      obtain ⟨b, hb, rfl⟩ := hj
      rw [Addr.add_lit]; exact hcell j b hb
    have hrun := run_append_grow (P := Try.prog) (w := w) 22 op.type 5 i0 (.int .u8 0) Try.underlying22 hi hz0 ⟨g, 0, none⟩ l.length l.length (byteCells l) (by rw [hz1]; simp) holds ⟨g2, o2, none⟩ t.length c (byteCells t) (by rw [hz1]; simp) hnews (by omega) (by omega) (growslice_fits (by omega) (by rw [hz2]; omega))
    have hge := grownCap_ge w (l.length + t.length) l.length 5
    generalize grownCap w (l.length + t.length) l.length 5 = cap at *
    have hB := brd_more w.drew (l ++ t) 5 ((byteCells l).toArray ++ (byteCells t).toArray ++ Builtin.zeroCells (Value.cells (.int .u8 0)) (cap - (l.length + t.length))) (fun i b hb => by
      have hb' : i < (l ++ t).length := (List.getElem?_eq_some_iff.1 hb).1
      have hq : (byteCells l ++ byteCells t)[i]? = some (.int .u8 b.toNat) := by
        rw [← byteCells_app]; unfold byteCells; rw [List.getElem?_map, hb]; rfl
      rw [Array.getElem?_append_left (by simpa using hb'), List.append_toArray, List.getElem?_toArray]
      exact hq) cap (by simpa using hge) (0, 0)
    have hK := h _ _ hB ((Kept.refl w).drew.alloc _)
    rw [List.length_append] at hK
    unfold Oper.wp execOp
    simp only [ho, resolve, invoke, builtin, Sem.run_bind, Sem.run_pure, Result.andThen_ok, List.map_toArray, List.map_cons, List.map_nil, hs, hx, hrun]
    exact hK
theorem wpList_fullB {ops : Array Oper} {rest : List Oper} {op : Oper} {a : Act} {w : World} {Q : Exit → Act → World → Prop} (hg : op.guard = none) (sx x : Operand) (ho : op.op = .call { callee := .builtin .append, args := #[sx, x], argTypes := #[22, 22] })
    (g : Nat) (xv : Value) (l t : B) (hs : a.eval sx = .slice (some ⟨g, 0, none⟩) l.length l.length) (hL : BRd (.slice (some ⟨g, 0, none⟩) l.length l.length) l w) (hx : a.eval x = xv) (hR : BRd xv t w) (hne : l ≠ []) (hl : l.length + t.length ≤ 100000000000000)
    (h : ∀ v' w', BRd v' (l ++ t) w' → Kept w w' → wpList Try.prog ops Q rest (a.put op.dst v') w') : wpList Try.prog ops Q (op :: rest) a w :=
  wpList_plain hg fun K hK => wp_fullB sx x ho g xv l t hs hL hx hR hne hl (fun v' w' h1 h2 => hK _ _ (h v' w' h1 h2))
set_option maxRecDepth 100000 in
set_option maxHeartbeats 4000000 in
theorem soft12_walk (v : Value) (l : B) (w : World) (hB : BRd v l w) (hd : l.length ≤ maxLen) : Calls Try.prog 8 #[v] w fun e w' => e = .returned (.bool true) ∧ Kept w w' := by
  unfold maxLen at hd
  obtain ⟨g, c, hv⟩ := hB.slice
  subst hv
  have HB := Lib.hid hB
  clear hB
  go_enter Try.func8, Try.ntmps8
  go_wp2_with fail
  refine (awake12_any w).mono ?_
  rintro e x1 ⟨rfl, k1⟩
  have K1 := Lib.hid k1
  clear k1
  by_cases hs : 1000 < (l.length : Int)
  · go_wp2
    go_ret
    exact ⟨rfl, K1.out⟩
  have hl : l.length ≤ 1000 := by omega
  go_wp2_with fail
  refine (decode_any _ l x1 (HB.out.kept K1.out) (by omega)).mono ?_
  rintro e x2 ⟨xv, rfl, ⟨av, hO, rfl⟩, k2⟩
  have K2 := Lib.hid (K1.out.trans k2)
  have R2 := Lib.hid hO.rd
  obtain ⟨a2, c2, hv2⟩ := own_slice hO
  subst hv2
  have RA := Lib.hid (HB.out.kept K2.out)
  clear hO k2 K1 HB
  have kc := fun (w : World) (C : Array Value) (n c : Nat) => Lib.run_convert_bytes_const (P := Try.prog) w 22 5 C n c Try.underlying22 Try.underlying5
  have kn := (Kept.refl x2).alloc (.cells #[.int .u8 61, .int .u8 13, .int .u8 10] 5 (3, 4))
  have HKN := Lib.hid kn
  have hN := Lib.hid (brd_new x2 [61, 13, 10] 5 #[.int .u8 61, .int .u8 13, .int .u8 10] rfl 3 (Nat.le_refl 3) (3, 4))
  have RN := Lib.hid (RA.out.kept kn)
  clear kn
  go_upto_region 5 with (fail)
  go_wp2_with (at_builtin; refine wpList_fullB rfl _ _ rfl x2.heap.size _ [61, 13, 10] l rfl hN.out rfl RN.out (by decide) (by simp; omega) ?_)
  intro v3 x3 hO hk
  have k3 : Kept x2 x3 := HKN.out.trans hk
  have K3 := Lib.hid (K2.out.trans k3)
  have R3 := Lib.hid (R2.out.kept k3)
  have RA3 := Lib.hid (RA.out.kept k3)
  obtain ⟨a3, c3, hv3⟩ := hO.slice
  subst hv3
  have hll : (61 :: 13 :: 10 :: l).length ≤ 1003 := by simp; omega
  have HS1 := Lib.hid (show dec (61 :: 13 :: 10 :: l) = dec l from dec_soft3 l)
  have HLL := Lib.hid hll
  clear hk k3 hN HKN RN kc K2 R2 RA hll
  generalize 61 :: 13 :: 10 :: l = l3 at *
  have O3 := Lib.hid hO
  clear hO
  go_wp2_with fail
  refine (decode_any _ l3 x3 O3.out (by have := HLL.out; omega)).mono ?_
  rintro e x4 ⟨xv, rfl, ⟨yv, hO, rfl⟩, k4⟩
  rw [HS1.out] at hO
  rw [show dE l3 = dE l by unfold dE; rw [HS1.out]]
  have K4 := Lib.hid (K3.out.trans k4)
  have R4 := Lib.hid (R3.out.kept k4)
  have RA4 := Lib.hid (RA3.out.kept k4)
  have S4 := Lib.hid hO.rd
  obtain ⟨a4, c4, hv4⟩ := own_slice hO
  subst hv4
  clear hO k4 K3 R3 RA3 O3 HS1
  go_upto_region 6 with (fail)
  go_wp2_with (at_builtin; refine wpList_sliceB rfl _ _ rfl x4.heap.size (.slice none 0 0) _ [] l rfl (OwnB.nil _ _) rfl RA4.out (by simp; omega) (Nat.le_refl _) ?_)
  intro v5 x5 hO hg
  have k5 : Kept x4 x5 := kept_row (Kept.refl _) hg (fun r hr => by cases hr)
  have O5 := Lib.hid hO
  have hs5 := k5.size
  have HK5 := Lib.hid k5
  obtain ⟨a5, c5, hv5⟩ := own_slice hO
  subst hv5
  clear hO hg k5 RA4
  go_wp2_with (at_builtin; refine wpList_strB rfl _ _ rfl x4.heap.size (.slice a5 l.length c5) l [61, 13, 10] rfl O5.out rfl (by simp; omega) hs5 ?_)
  intro v6 x6 hO hg
  have k6 : Kept x4 x6 := kept_row HK5.out hg (fun r hr => (World.ownsRow.lt O5.out r hr).1)
  have O6 := Lib.hid hO
  have K6 := Lib.hid (K4.out.trans k6)
  have R6 := Lib.hid (R4.out.kept k6)
  have S6 := Lib.hid (S4.out.kept k6)
  obtain ⟨a6, c6, hv6⟩ := own_slice hO
  subst hv6
  have HL6 := Lib.hid (show (l ++ [61, 13, 10]).length ≤ 1003 by simp; omega)
  have HS2 := Lib.hid (fun x (h : dec l = some x) => dec_tail h)
  clear hO hg k6 O5 HK5 K4 R4 S4
  generalize l ++ [61, 13, 10] = l6 at *
  go_wp2_with fail
  refine (decode_any _ l6 x6 O6.out.rd (by have := HL6.out; omega)).mono ?_
  rintro e x7 ⟨xv, rfl, ⟨zv, hO, rfl⟩, k7⟩
  have K7 := Lib.hid (K6.out.trans k7)
  have R7 := Lib.hid (R6.out.kept k7)
  have S7 := Lib.hid (S6.out.kept k7)
  have T7 := Lib.hid hO.rd
  obtain ⟨a7, c7, hv7⟩ := own_slice hO
  subst hv7
  clear hO k7 O6 K6 R6 S6
  cases h1 : dec l with
  | none =>
    rw [dE_none h1]
    simp only [Option.getD_none, List.length_nil]
    clear HS2 h1
    go_wp2
    go_ret
    exact ⟨rfl, K7.out⟩
  | some x =>
    have h3 := HS2.out x h1
    rw [dE_some h1, dE_some h3, h3]
    simp only [Option.getD_some]
    rw [h1, show (some x).getD [] = x from rfl] at R7 S7
    rw [h3, show (some x).getD [] = x from rfl] at T7
    have hc1 := R7.out.conv
    have hc2 := S7.out.conv
    have hc3 := T7.out.conv
    clear HS2 h1 h3 T7 R7 S7
    go_wp2
    go_ret
    exact ⟨rfl, K7.out⟩
end Go.Proofs.Ytkcalnmemjioaaa
