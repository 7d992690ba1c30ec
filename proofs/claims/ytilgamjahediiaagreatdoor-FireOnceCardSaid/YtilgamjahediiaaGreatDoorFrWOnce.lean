/- The law FireOnce, walked (given the contracts of package fire). -/
import Derived.Test.YtilgamjahediiaaGreatDoorFrA
import Derived.Test.YtilgamjahediiaaGreatDoorFrP
set_option linter.unusedVariables false
namespace Go.Proofs.YtilgamjahediiaaGreatDoor
open Go.ChangeShapes Go.WideShapes Go.ChangeAt Go.RowKit
open Civ Zn Lc Crn
theorem bothl_cells {b b2 lb lk : Nat} {u : Int} {z : Zo} {c : CR} {sl : Nat → Value} {y : World} (h : Bz b z y) (k2 : Cb b2 sl c.st y) (hu : y.cell? ⟨lb, lk, none⟩ = some (.int .i64 u)) : y.cell? ⟨b, 0, none⟩ = some (.string ⟨z.std.toArray⟩) ∧ y.cell? ⟨b, 1, none⟩ = some (.int .i64 z.off) ∧ y.cell? ⟨b, 2, none⟩ = some (.bool z.has) ∧ y.cell? ⟨b, 3, none⟩ = some (.string ⟨z.dst.toArray⟩) ∧ y.cell? ⟨b, 4, none⟩ = some (.int .i64 z.ahead) ∧ y.cell? ⟨b, 5, none⟩ = some (.int .i64 z.fr.k) ∧ y.cell? ⟨b, 6, none⟩ = some (.int .i64 z.fr.m) ∧ y.cell? ⟨b, 7, none⟩ = some (.int .i64 z.fr.w) ∧ y.cell? ⟨b, 8, none⟩ = some (.int .i64 z.fr.d) ∧ y.cell? ⟨b, 9, none⟩ = some (.int .i64 z.fr.a) ∧ y.cell? ⟨b, 10, none⟩ = some (.int .i64 z.to.k) ∧ y.cell? ⟨b, 11, none⟩ = some (.int .i64 z.to.m) ∧ y.cell? ⟨b, 12, none⟩ = some (.int .i64 z.to.w) ∧ y.cell? ⟨b, 13, none⟩ = some (.int .i64 z.to.d) ∧ y.cell? ⟨b, 14, none⟩ = some (.int .i64 z.to.a) ∧ y.cell? ⟨b2, 0, none⟩ = some (sl 0) ∧ y.cell? ⟨b2, 1, none⟩ = some (sl 1) ∧ y.cell? ⟨b2, 2, none⟩ = some (sl 2) ∧ y.cell? ⟨b2, 3, none⟩ = some (sl 3) ∧ y.cell? ⟨b2, 4, none⟩ = some (sl 4) ∧ y.cell? ⟨b2, 5, none⟩ = some (.bool (c.st 0)) ∧ y.cell? ⟨b2, 6, none⟩ = some (.bool (c.st 1)) ∧ y.cell? ⟨b2, 7, none⟩ = some (.bool (c.st 2)) ∧ y.cell? ⟨b2, 8, none⟩ = some (.bool (c.st 3)) ∧ y.cell? ⟨b2, 9, none⟩ = some (.bool (c.st 4)) ∧ y.cell? ⟨lb, lk, none⟩ = some (.int .i64 u) := by
  obtain ⟨e0, e1, e2, e3, e4, e5, e6, e7, e8, e9⟩ := cells10 k2
  exact ⟨h.cs.c0, h.cs.c1, h.cs.c2, h.cs.c3, h.cs.c4, h.cs.c5, h.cs.c6, h.cs.c7, h.cs.c8, h.cs.c9, h.cs.c10, h.cs.c11, h.cs.c12, h.cs.c13, h.cs.c14, e0, e1, e2, e3, e4, e5, e6, e7, e8, e9, hu⟩
/-- integers that a slice reads as, wherever it lies -/
theorem out_at {B : Nat} {v : Value} {l : List Int} {x : World} (h : Out B v l x) (hl : 0 < l.length) : ∃ lb cap, v = .slice (some ⟨lb, 0, none⟩) l.length cap ∧ ∀ (j : Nat) n, l[j]? = some n → x.cell? ⟨lb, j, none⟩ = some (.int .i64 n) := by
  rcases h.2 with ⟨h1, h2⟩ | ⟨g, cap, cur, h1, h2, h3, h4⟩
  · omega
  · refine ⟨g, cap, h1, fun j n hj => ?_⟩
    have hc := World.ownsRow.cells h (g := g) (by rw [h1]; rfl) j (.int .i64 n) (by simp [hj])
    have ha : ((⟨g, 0, none⟩ : Addr).add j) = ⟨g, j, none⟩ := by simp [Addr.add]; omega
    rw [ha] at hc
    exact hc
set_option maxRecDepth 100000 in
set_option maxHeartbeats 4000000 in
theorem once6_walk (hG : GapC) (hF : FiresC) (hN : NextC) (z : Zo) (c : CR) (sl : Nat → Value) (q : Six) (w : World) (h1 : z.std.length ≤ maxLen) (h2 : z.dst.length ≤ maxLen) (hc : Cr w sl c.L) (htab : Tab w) : Calls Tryz.prog 6 #[zoV z, crV sl c.st, sixV q] w fun e w' => e = .returned (.bool true) ∧ Kept w w' := by
  have k0 := (Kept.refl w).alloc (.cells (zo15 z.std z.off z.has z.dst z.ahead z.fr.k z.fr.m z.fr.w z.fr.d z.fr.a z.to.k z.to.m z.to.w z.to.d z.to.a) 25)
  have b0 := bz_new w z
  have T0 := Tb.start htab
  have HG := Lib.hid hG; have HF := Lib.hid hF; have HN := Lib.hid hN
  clear hG hF hN htab
  go_enter Tryz.func6, Tryz.ntmps6
  go_upto_region 1 with (fail)
  generalize hx : w.alloc (.cells (zo15 z.std z.off z.has z.dst z.ahead z.fr.k z.fr.m z.fr.w z.fr.d z.fr.a z.to.k z.to.m z.to.w z.to.d z.to.a) 25) = x at *
  have s1 : x.heap.size = w.heap.size + 1 := by rw [← hx]; simp
  clear hx
  have c1 : Cb (w.heap.size + 1) sl c.st (x.alloc (.cells (cr10 sl c.st) 30)) := by rw [← s1]; exact Cb.new sl c.st x
  have k1 := (Kept.refl x).alloc (.cells (cr10 sl c.st) 30)
  generalize hx1 : x.alloc (.cells (cr10 sl c.st) 30) = xa at *
  have s2 : xa.heap.size = w.heap.size + 1 + 1 := by rw [← hx1]; simp [s1]
  clear hx1
  have d1 : (xa.alloc (.cells (six6 q) 34)).heap[w.heap.size + 1 + 1]? = some (.cells (six6 q) 34) := by rw [← s2]; exact new_block xa _
  have k2 := (Kept.refl xa).alloc (.cells (six6 q) 34)
  generalize xa.alloc (.cells (six6 q) 34) = x1 at *
  have kk := k0.trans (k1.trans k2)
  have Z1 := Lib.hid ((b0.kept k1).kept k2); have B1 := Lib.hid (c1.kept k2); have K1 := Lib.hid kk; have C1 := Lib.hid (hc.kept kk); have T1 := Lib.hid (T0.kept kk); have Q1 := Lib.hid d1
  clear b0 k0 k1 k2 kk c1 d1 s1 s2 hc T0
  go_wp2_with fail
  refine (awake6_any HG.out HF.out HN.out _ T1.out.tab).mono ?_
  rintro e x2 ⟨rfl, k2⟩
  have Z2 := Lib.hid (Z1.out.kept k2); have B2 := Lib.hid (B1.out.kept k2); have C2 := Lib.hid (C1.out.kept k2); have K2 := Lib.hid (K1.out.trans k2); have Q2 := Lib.hid ((k2.block _ (Array.getElem?_eq_some_iff.1 Q1.out).1).trans Q1.out)
  clear k2 Z1 B1 C1 K1 Q1
  clear T1
  go_wp2_with (first | refine wpList_load_row rfl 25 _ rfl w.heap.size rfl 25 _ (0, 0) _ Z2.out Tryz.underlying25 rfl (by kernel_rfl) ?_ | refine wpList_load_row rfl 30 _ rfl (w.heap.size + 1) rfl 30 _ (0, 0) _ B2.out Tryz.underlying30 rfl (by kernel_rfl) ?_)
  refine (few6_any z c sl _ C2.out h1 h2).mono ?_
  rintro e x3 ⟨rfl, k3⟩
  have Z3 := Lib.hid (Z2.out.kept k3); have B3 := Lib.hid (B2.out.kept k3); have C3 := Lib.hid (C2.out.kept k3); have K3 := Lib.hid (K2.out.trans k3); have Q3 := Lib.hid ((k3.block _ (Array.getElem?_eq_some_iff.1 Q2.out).1).trans Q2.out)
  clear k3 Z2 B2 C2 K2 Q2
  generalize (shB z && decide (FewP c)) = few at *
  go_wp2_with (first | refine wpList_load_row rfl 25 _ rfl w.heap.size rfl 25 _ (0, 0) _ Z3.out Tryz.underlying25 rfl (by kernel_rfl) ?_ | refine wpList_load_row rfl 34 _ rfl (w.heap.size + 1 + 1) rfl 34 _ (0, 0) _ Q3.out Tryz.underlying34 rfl (by kernel_rfl) ?_)
  refine (of_any z q _).mono ?_
  rintro e x4 ⟨ao, cap, rfl, ho, k4⟩
  have Z4 := Lib.hid (Z3.out.kept k4); have B4 := Lib.hid (B3.out.kept k4); have C4 := Lib.hid (C3.out.kept k4); have K4 := Lib.hid (K3.out.trans k4); have Q4 := Lib.hid ((k4.block _ (Array.getElem?_eq_some_iff.1 Q3.out).1).trans Q3.out)
  clear k4 Z3 B3 C3 K3 Q3
  have HO := Lib.hid ho; clear ho
  cases few with
  | false =>
    go_wp2
    go_ret
    exact ⟨rfl, K4.out⟩
  | true =>
    by_cases ho0 : ofE z q = 0
    case neg =>
      have ob : (ofE z q != 0) = true := bne_iff_ne.2 ho0
      go_wp2
      go_ret
      exact ⟨rfl, K4.out⟩
    have ob : (ofE z q != 0) = false := by rw [ho0]; rfl
    have HCV := Lib.hid (show CivOk z q by by_cases h : CivOk z q; exact h; unfold ofE at ho0; rw [if_neg h] at ho0; cases ho0)
    clear ho0
    obtain ⟨e0, e1, e2, e3, e4, e5, e6, e7, e8, e9⟩ := cells10 B4.out
    generalize ofE z q = oe at *
    go_wp2_with fail
    refine (cmay_any c sl _ C4.out).mono ?_
    rintro e x5 ⟨rfl, k5⟩
    clear e0 e1 e2 e3 e4 e5 e6 e7 e8 e9
    have HO5 := Lib.hid (HO.out.kept' k5)
    clear HO
    have Z5 := Lib.hid (Z4.out.kept k5); have B5 := Lib.hid (B4.out.kept k5); have C5 := Lib.hid (C4.out.kept k5); have K5 := Lib.hid (K4.out.trans k5); have Q5 := Lib.hid ((k5.block _ (Array.getElem?_eq_some_iff.1 Q4.out).1).trans Q4.out)
    clear k5 Z4 B4 C4 K4 Q4
    cases hm : mayC c with
    | false =>
      clear hm
      go_wp2
      go_ret
      exact ⟨rfl, K5.out⟩
    | true =>
      have HON := Lib.hid (fun (i : Nat) (u : Int) (hu : (ofS z q)[i]? = some u) (hg : gN z u = 0) (r1 : 86400 ≤ u) (r2 : u ≤ 253402214400) => fire_once HCV.out hm hu hg r1 r2)
      have HUB := Lib.hid (fun (i : Nat) (u : Int) (hu : (ofS z q)[i]? = some u) => show 0 ≤ u ∧ u ≤ 253402300799 from by
        have := (of_back HCV.out (List.mem_of_getElem? hu)).1.1
        unfold oOk scB at this
        simp only [Bool.and_eq_true, decide_eq_true_eq] at this
        exact this.2)
      have hlen : (ofS z q).length ≤ 2 := by unfold ofS; rw [if_pos HCV.out]; exact ofL_len _ _
      clear hm ob HCV
      generalize ofS z q = ol at *
      go_wp2_with fail
      generalize hW : x5 = W at *
      clear hW
      go_loopw [11, 12, 13, 14] (fun i _ _ _ y => Kept W y ∧ ∃ k : Nat, k ≤ ol.length ∧ i = .int .i64 k) (fun i _ _ _ _ => ol.length - (intOf i).toNat)
      case atStart => exact ⟨Kept.refl _, 0, by omega, rfl⟩
      case round =>
        obtain ⟨hk, k, hkl, rfl⟩ := hrel
        have HK := Lib.hid hk; clear hk
        by_cases hlt : k < ol.length
        case neg =>
          go_wp2
          go_ret
          exact ⟨rfl, K5.out.trans HK.out⟩
        have hlti : (k : Int) < (ol.length : Int) := by omega
        obtain ⟨lb, cp, hse, hcell⟩ := out_at HO5.out (by omega)
        simp only [Value.slice.injEq] at hse
        obtain ⟨rfl, -, -⟩ := hse
        obtain ⟨u, hu⟩ : ∃ u, ol[k]? = some u := ⟨_, List.getElem?_eq_getElem hlt⟩
        have hcu := hcell k u hu
        have LU := Lib.hid (lt_cell hcu)
        have hcw : wr.cell? ⟨lb, k, none⟩ = some (.int .i64 u) := (HK.out.cell (a := ⟨lb, k, none⟩) LU.out).trans hcu
        have HCW := Lib.hid hcw
        clear hcell hcu hcw
        have HON2 := Lib.hid (HON.out k u hu)
        obtain ⟨ub1, ub2⟩ := HUB.out k u hu
        clear hu
        have Z6 := Lib.hid (Z5.out.kept HK.out); have B6 := Lib.hid (B5.out.kept HK.out); have C6 := Lib.hid (C5.out.kept HK.out); have Q6 := Lib.hid ((HK.out.block _ (Array.getElem?_eq_some_iff.1 Q5.out).1).trans Q5.out)
        go_upto_region 9 with (fail)
        have KD := Lib.hid ((Kept.refl wr).drew)
        have HGP := Lib.hid (fun x => HG.out z u x (by omega) (by omega))
        have HFR := Lib.hid (fun x hx => HF.out z c sl u x (by omega) (by omega) hx)
        have CD := Lib.hid (fun x (kx : Kept wr x) => bothl_cells (Z6.out.kept kx) (B6.out.kept kx) ((kx.cell (a := ⟨lb, k, none⟩) (lt_cell HCW.out)).trans HCW.out))
        refine wp_region_held_drew (S := (fun y => y.cell? ⟨w.heap.size, 0, none⟩ = some (.string ⟨z.std.toArray⟩) ∧ y.cell? ⟨w.heap.size, 1, none⟩ = some (.int .i64 z.off) ∧ y.cell? ⟨w.heap.size, 2, none⟩ = some (.bool z.has) ∧ y.cell? ⟨w.heap.size, 3, none⟩ = some (.string ⟨z.dst.toArray⟩) ∧ y.cell? ⟨w.heap.size, 4, none⟩ = some (.int .i64 z.ahead) ∧ y.cell? ⟨w.heap.size, 5, none⟩ = some (.int .i64 z.fr.k) ∧ y.cell? ⟨w.heap.size, 6, none⟩ = some (.int .i64 z.fr.m) ∧ y.cell? ⟨w.heap.size, 7, none⟩ = some (.int .i64 z.fr.w) ∧ y.cell? ⟨w.heap.size, 8, none⟩ = some (.int .i64 z.fr.d) ∧ y.cell? ⟨w.heap.size, 9, none⟩ = some (.int .i64 z.fr.a) ∧ y.cell? ⟨w.heap.size, 10, none⟩ = some (.int .i64 z.to.k) ∧ y.cell? ⟨w.heap.size, 11, none⟩ = some (.int .i64 z.to.m) ∧ y.cell? ⟨w.heap.size, 12, none⟩ = some (.int .i64 z.to.w) ∧ y.cell? ⟨w.heap.size, 13, none⟩ = some (.int .i64 z.to.d) ∧ y.cell? ⟨w.heap.size, 14, none⟩ = some (.int .i64 z.to.a) ∧ y.cell? ⟨w.heap.size + 1, 0, none⟩ = some (sl 0) ∧ y.cell? ⟨w.heap.size + 1, 1, none⟩ = some (sl 1) ∧ y.cell? ⟨w.heap.size + 1, 2, none⟩ = some (sl 2) ∧ y.cell? ⟨w.heap.size + 1, 3, none⟩ = some (sl 3) ∧ y.cell? ⟨w.heap.size + 1, 4, none⟩ = some (sl 4) ∧ y.cell? ⟨w.heap.size + 1, 5, none⟩ = some (.bool (c.st 0)) ∧ y.cell? ⟨w.heap.size + 1, 6, none⟩ = some (.bool (c.st 1)) ∧ y.cell? ⟨w.heap.size + 1, 7, none⟩ = some (.bool (c.st 2)) ∧ y.cell? ⟨w.heap.size + 1, 8, none⟩ = some (.bool (c.st 3)) ∧ y.cell? ⟨w.heap.size + 1, 9, none⟩ = some (.bool (c.st 4)) ∧ y.cell? ⟨lb, k, none⟩ = some (.int .i64 u))) (by kernel_rfl) (CD.out _ KD.out) (fun hS0 => ?_)
        refine wpAnyH_take (i := 0) (oi := { dst := some 48, op := Go.Op.load 25 (Go.Operand.tmp 3), type := 25, pos := "law.go:106", after := #[], guard := none }) (v := ?va0) rfl (by kernel_rfl) (by kernel_rfl) (by kernel_rfl) (fun _ _ _ h => h) (Or.inl ⟨by rfl, ?ya0⟩) (by assumption) ?ra0
        case ya0 => (intro wq hSw; (try dsimp only at hSw); go_simp; try with_reducible rfl)
        simp only [Act.put, List.setIfInBounds_toArray, List.set_cons_zero, List.set_cons_succ]
        refine wpAnyH_take (i := 1) (oi := { dst := some 49, op := Go.Op.move (Go.Operand.tmp 9), type := 26, pos := "law.go:106", after := #[], guard := none }) (v := ?va1) rfl (by kernel_rfl) (by kernel_rfl) (by kernel_rfl) (fun _ _ _ h => h) (Or.inl ⟨by rfl, ?ya1⟩) (by assumption) ?ra1
        case ya1 => (intro wq hSw; (try dsimp only at hSw); go_simp; try with_reducible rfl)
        simp only [Act.put, List.setIfInBounds_toArray, List.set_cons_zero, List.set_cons_succ]
        refine wpAnyH_take (i := 2) (oi := { dst := some 50, op := Go.Op.move (Go.Operand.tmp 11), type := 3, pos := "law.go:106", after := #[], guard := none }) (v := ?va2) rfl (by kernel_rfl) (by kernel_rfl) (by kernel_rfl) (fun _ _ _ h => h) (Or.inl ⟨by rfl, ?ya2⟩) (by assumption) ?ra2
        case ya2 => (intro wq hSw; (try dsimp only at hSw); go_simp; try with_reducible rfl)
        simp only [Act.put, List.setIfInBounds_toArray, List.set_cons_zero, List.set_cons_succ]
        refine wpAnyH_take (i := 3) (oi := { dst := some 51, op := Go.Op.indexAddr 26 (Go.Operand.tmp 49) (Go.Operand.tmp 50), type := 0, pos := "law.go:106", after := #[{ on := 1, ground := Go.Ground.data }, { on := 2, ground := Go.Ground.data }], guard := none }) (v := ?va3) rfl (by kernel_rfl) (by kernel_rfl) (by kernel_rfl) (fun _ _ _ h => h) (Or.inl ⟨by rfl, ?ya3⟩) (by assumption) ?ra3
        case ya3 => (intro wq hSw; (try dsimp only at hSw); go_simp; try with_reducible rfl)
        simp only [Act.put, List.setIfInBounds_toArray, List.set_cons_zero, List.set_cons_succ]
        refine wpAnyH_take (i := 4) (oi := { dst := some 52, op := Go.Op.load 3 (Go.Operand.tmp 51), type := 3, pos := "law.go:106", after := #[{ on := 3, ground := Go.Ground.data }], guard := none }) (v := ?va4) rfl (by kernel_rfl) (by kernel_rfl) (by kernel_rfl) (fun _ _ _ h => h) (Or.inl ⟨by rfl, ?ya4⟩) (by assumption) ?ra4
        case ya4 => (intro wq hSw; (try dsimp only at hSw); go_simp; try with_reducible rfl)
        simp only [Act.put, List.setIfInBounds_toArray, List.set_cons_zero, List.set_cons_succ]
        refine wpAnyH_ready (rs := [5, 9]) (by kernel_rfl) (by simp) (AllReadyH.cons (o := { dst := some 53, op := Go.Op.call { callee := Go.Callee.value (Go.Operand.func 12), args := #[Go.Operand.tmp 48, Go.Operand.tmp 52], argTypes := #[25, 3] }, type := 35, pos := "law.go:106", after := #[{ on := 0, ground := Go.Ground.data }, { on := 4, ground := Go.Ground.data }], guard := none }) rfl (fun K hK => ?_) (AllReadyH.cons (o := { dst := some 13, op := Go.Op.alloc 34, type := 0, pos := "law.go:106", after := #[], guard := none }) rfl (fun K hK => ?_) AllReadyH.nil))
        · go_simp
          go_at_call 12; refine (HGP.out _).mono ?_
          rintro e y1 ⟨rfl, q1⟩
          have Q1 := Lib.hid (KD.out.trans q1)
          clear q1
          refine Shut.out hK _ _ (CD.out _ Q1.out) (fun hSb => ?_)
          clear hK K
          try simp only [Act.put, List.setIfInBounds_toArray, List.set_cons_zero, List.set_cons_succ]
          refine wpAnyH_take (i := 6) (oi := { dst := some 47, op := Go.Op.move (Go.Operand.tmp 53), type := 35, pos := "law.go:106", after := #[{ on := 5, ground := Go.Ground.data }], guard := none }) (v := ?vb6) rfl (by kernel_rfl) (by kernel_rfl) (by kernel_rfl) (fun _ _ _ h => h) (Or.inl ⟨by rfl, ?yb6⟩) (by assumption) ?rb6
          case yb6 => (intro wq hSw; (try dsimp only at hSw); go_simp; try with_reducible rfl)
          simp only [Act.put, List.setIfInBounds_toArray, List.set_cons_zero, List.set_cons_succ]
          refine wpAnyH_take (i := 7) (oi := { dst := some 54, op := Go.Op.extract (Go.Operand.tmp 47) 0, type := 3, pos := "law.go:106", after := #[{ on := 6, ground := Go.Ground.data }], guard := none }) (v := ?vb7) rfl (by kernel_rfl) (by kernel_rfl) (by kernel_rfl) (fun _ _ _ h => h) (Or.inl ⟨by rfl, ?yb7⟩) (by assumption) ?rb7
          case yb7 => (intro wq hSw; (try dsimp only at hSw); go_simp; try with_reducible rfl)
          simp only [Act.put, List.setIfInBounds_toArray, List.set_cons_zero, List.set_cons_succ]
          refine wpAnyH_take (i := 8) (oi := { dst := some 55, op := Go.Op.extract (Go.Operand.tmp 47) 1, type := 34, pos := "law.go:106", after := #[{ on := 6, ground := Go.Ground.data }, { on := 10, ground := Go.Ground.gcOnly Go.Departure.lateStores }], guard := none }) (v := ?vb8) rfl (by kernel_rfl) (by kernel_rfl) (by kernel_rfl) (fun _ _ _ h => h) (Or.inl ⟨by rfl, ?yb8⟩) (by assumption) ?rb8
          case yb8 => (intro wq hSw; (try dsimp only at hSw); go_simp; try with_reducible rfl)
          simp only [Act.put, List.setIfInBounds_toArray, List.set_cons_zero, List.set_cons_succ]
          refine wpAnyH_ready (rs := [9]) (by kernel_rfl) (by simp) (AllReadyH.cons (o := { dst := some 13, op := Go.Op.alloc 34, type := 0, pos := "law.go:106", after := #[], guard := none }) rfl (fun K hK => ?_) AllReadyH.nil)
          go_simp
          have QA := Lib.hid (Q1.out.alloc (.cells (six6 six0) 34))
          refine Shut.out hK _ _ (CD.out _ QA.out) (fun hSb => ?_)
          clear hK K
          try simp only [Act.put, List.setIfInBounds_toArray, List.set_cons_zero, List.set_cons_succ]
          refine wpAnyH_take (i := 10) (oi := { dst := some 12, op := Go.Op.assign (Go.Operand.tmp 54), type := 3, pos := "law.go:106", after := #[{ on := 7, ground := Go.Ground.data }, { on := 5, ground := Go.Ground.chain }, { on := 0, ground := Go.Ground.phase }, { on := 1, ground := Go.Ground.phase }, { on := 2, ground := Go.Ground.phase }, { on := 3, ground := Go.Ground.phase }, { on := 4, ground := Go.Ground.phase }, { on := 5, ground := Go.Ground.phase }, { on := 6, ground := Go.Ground.phase }, { on := 7, ground := Go.Ground.phase }, { on := 8, ground := Go.Ground.textOnly Go.Departure.lateStores }, { on := 9, ground := Go.Ground.phase }], guard := none }) (v := ?vb10) rfl (by kernel_rfl) (by kernel_rfl) (by kernel_rfl) (fun _ _ _ h => h) (Or.inl ⟨by rfl, ?yb10⟩) (by assumption) ?rb10
          case yb10 => (intro wq hSw; (try dsimp only at hSw); go_simp; try with_reducible rfl)
          simp only [Act.put, List.setIfInBounds_toArray, List.set_cons_zero, List.set_cons_succ]
          refine wpAnyH_ready (rs := [11]) (by kernel_rfl) (by simp) (AllReadyH.cons (o := { dst := none, op := Go.Op.store 34 (Go.Operand.tmp 13) (Go.Operand.tmp 55), type := 0, pos := "law.go:106", after := #[{ on := 9, ground := Go.Ground.data }, { on := 8, ground := Go.Ground.data }, { on := 10, ground := Go.Ground.chain }, { on := 0, ground := Go.Ground.phase }, { on := 1, ground := Go.Ground.phase }, { on := 2, ground := Go.Ground.phase }, { on := 3, ground := Go.Ground.phase }, { on := 4, ground := Go.Ground.phase }, { on := 5, ground := Go.Ground.phase }, { on := 6, ground := Go.Ground.phase }, { on := 7, ground := Go.Ground.phase }, { on := 8, ground := Go.Ground.phase }, { on := 9, ground := Go.Ground.phase }, { on := 10, ground := Go.Ground.phase }], guard := none }) rfl (fun K hK => ?_) AllReadyH.nil)
          rw [if_pos (by rfl)]
          refine wp_store_row 34 _ _ rfl y1.heap.size (six6 (gC z u)) rfl rfl 34 (six6 six0) (sbox_z y1) (by kernel_rfl) rfl (by simp [Value.oneCell']) ?_
          have KX := Lib.hid (Q1.out.trans (sbox_k y1 (gC z u)))
          refine Shut.out hK _ _ (CD.out _ KX.out) (fun hSb => ?_)
          clear hK K
          try simp only [Act.put]
          refine wpAnyH_done (by kernel_rfl) ?_ _
          clear hSb hS0 Q1 QA
          generalize (y1.alloc (.cells (six6 six0) 34)).setRow y1.heap.size (six6 (gC z u)) = x9 at *
          have p0 : x9.cell? ⟨lb, k, none⟩ = some (.int .i64 u) := (KX.out.cell (a := ⟨lb, k, none⟩) (lt_cell HCW.out)).trans HCW.out
          obtain ⟨gb1, gb2⟩ := gN_bd z u
          by_cases n1 : 0 < gN z u
          · go_wp2
            go_roundw
            case rel => exact ⟨HK.out.trans KX.out, k + 1, hlt, by go_num⟩
            case measure => simp [intOf]; omega
          have n1e : gN z u = 0 := by omega
          by_cases n2 : u < 86400
          · clear n1e
            go_wp2
            go_roundw
            case rel => exact ⟨HK.out.trans KX.out, k + 1, hlt, by go_num⟩
            case measure => simp [intOf]; omega
          by_cases n3 : 253402214400 < u
          · clear n1e
            go_wp2
            go_roundw
            case rel => exact ⟨HK.out.trans KX.out, k + 1, hlt, by go_num⟩
            case measure => simp [intOf]; omega
          have HW := Lib.hid (HON2.out n1e (by omega) (by omega))
          clear n1e
          have Z9 := Lib.hid (Z6.out.kept KX.out); have B9 := Lib.hid (B6.out.kept KX.out); have C9 := Lib.hid (C6.out.kept KX.out); have Q9 := Lib.hid ((KX.out.block _ (Array.getElem?_eq_some_iff.1 Q6.out).1).trans Q6.out)
          have HFR2 := Lib.hid HFR.out
          by_cases k0 : k = 0
          · have kb : ((k : Int) == 0) = true := by subst k0; rfl
            have HF3 := Lib.hid (show ∀ x, Cr x sl c.L → Calls Tryz.prog 15 #[zoV z, crV sl c.st, .int .i64 u] x fun e x' => e = .returned (.bool (mtS c q)) ∧ Kept x x' from fun x hx => by have := HFR2.out x hx; rw [HW.out, decide_eq_true k0, Bool.true_and] at this; exact this)
            clear k0 HW
            obtain ⟨e0, e1, e2, e3, e4, e5, e6, e7, e8, e9⟩ := cells10 B9.out
            have w0 := cell_of (j := 0) Q9.out rfl
            have w1 := cell_of (j := 1) Q9.out rfl
            have w2 := cell_of (j := 2) Q9.out rfl
            have w3 := cell_of (j := 3) Q9.out rfl
            have w4 := cell_of (j := 4) Q9.out rfl
            have w5 := cell_of (j := 5) Q9.out rfl
            go_wp2_with fail
            refine (match_any c sl q.y q.m q.d q.h q.i q.s _ C9.out).mono ?_
            rintro e xb ⟨rfl, kx⟩
            clear e0 e1 e2 e3 e4 e5 e6 e7 e8 e9 w0 w1 w2 w3 w4 w5 p0
            have KG := Lib.hid (KX.out.trans kx)
            clear kx
            have p0 : xb.cell? ⟨lb, k, none⟩ = some (.int .i64 u) := (KG.out.cell (a := ⟨lb, k, none⟩) (lt_cell HCW.out)).trans HCW.out
            have HMM : matchC c q.y q.m q.d q.h q.i q.s = mtS c q := rfl
            rw [HMM]
            clear HMM
            generalize mtS c q = mt at *
            go_upto_region 12 with (fail)
            clear p0
            have KE := Lib.hid (KG.out.drew)
            refine wp_region_held_drew (S := (fun y => y.cell? ⟨w.heap.size, 0, none⟩ = some (.string ⟨z.std.toArray⟩) ∧ y.cell? ⟨w.heap.size, 1, none⟩ = some (.int .i64 z.off) ∧ y.cell? ⟨w.heap.size, 2, none⟩ = some (.bool z.has) ∧ y.cell? ⟨w.heap.size, 3, none⟩ = some (.string ⟨z.dst.toArray⟩) ∧ y.cell? ⟨w.heap.size, 4, none⟩ = some (.int .i64 z.ahead) ∧ y.cell? ⟨w.heap.size, 5, none⟩ = some (.int .i64 z.fr.k) ∧ y.cell? ⟨w.heap.size, 6, none⟩ = some (.int .i64 z.fr.m) ∧ y.cell? ⟨w.heap.size, 7, none⟩ = some (.int .i64 z.fr.w) ∧ y.cell? ⟨w.heap.size, 8, none⟩ = some (.int .i64 z.fr.d) ∧ y.cell? ⟨w.heap.size, 9, none⟩ = some (.int .i64 z.fr.a) ∧ y.cell? ⟨w.heap.size, 10, none⟩ = some (.int .i64 z.to.k) ∧ y.cell? ⟨w.heap.size, 11, none⟩ = some (.int .i64 z.to.m) ∧ y.cell? ⟨w.heap.size, 12, none⟩ = some (.int .i64 z.to.w) ∧ y.cell? ⟨w.heap.size, 13, none⟩ = some (.int .i64 z.to.d) ∧ y.cell? ⟨w.heap.size, 14, none⟩ = some (.int .i64 z.to.a) ∧ y.cell? ⟨w.heap.size + 1, 0, none⟩ = some (sl 0) ∧ y.cell? ⟨w.heap.size + 1, 1, none⟩ = some (sl 1) ∧ y.cell? ⟨w.heap.size + 1, 2, none⟩ = some (sl 2) ∧ y.cell? ⟨w.heap.size + 1, 3, none⟩ = some (sl 3) ∧ y.cell? ⟨w.heap.size + 1, 4, none⟩ = some (sl 4) ∧ y.cell? ⟨w.heap.size + 1, 5, none⟩ = some (.bool (c.st 0)) ∧ y.cell? ⟨w.heap.size + 1, 6, none⟩ = some (.bool (c.st 1)) ∧ y.cell? ⟨w.heap.size + 1, 7, none⟩ = some (.bool (c.st 2)) ∧ y.cell? ⟨w.heap.size + 1, 8, none⟩ = some (.bool (c.st 3)) ∧ y.cell? ⟨w.heap.size + 1, 9, none⟩ = some (.bool (c.st 4)) ∧ y.cell? ⟨lb, k, none⟩ = some (.int .i64 u))) (by kernel_rfl) (CD.out _ KE.out) (fun hS0 => ?_)
            refine wpAnyH_take (i := 0) (oi := { dst := some 79, op := Go.Op.load 25 (Go.Operand.tmp 3), type := 25, pos := "law.go:111", after := #[], guard := none }) (v := ?vcm0) rfl (by kernel_rfl) (by kernel_rfl) (by kernel_rfl) (fun _ _ _ h => h) (Or.inl ⟨by rfl, ?ycm0⟩) (by assumption) ?rcm0
            case ycm0 => (intro wq hSw; (try dsimp only at hSw); go_simp; try with_reducible rfl)
            simp only [Act.put, List.setIfInBounds_toArray, List.set_cons_zero, List.set_cons_succ]
            refine wpAnyH_take (i := 1) (oi := { dst := some 80, op := Go.Op.load 30 (Go.Operand.tmp 4), type := 30, pos := "law.go:111", after := #[], guard := none }) (v := ?vcm1) rfl (by kernel_rfl) (by kernel_rfl) (by kernel_rfl) (fun _ _ _ h => h) (Or.inl ⟨by rfl, ?ycm1⟩) (by assumption) ?rcm1
            case ycm1 => (intro wq hSw; (try dsimp only at hSw); go_simp; try with_reducible rfl)
            simp only [Act.put, List.setIfInBounds_toArray, List.set_cons_zero, List.set_cons_succ]
            refine wpAnyH_take (i := 2) (oi := { dst := some 81, op := Go.Op.move (Go.Operand.tmp 9), type := 26, pos := "law.go:111", after := #[], guard := none }) (v := ?vcm2) rfl (by kernel_rfl) (by kernel_rfl) (by kernel_rfl) (fun _ _ _ h => h) (Or.inl ⟨by rfl, ?ycm2⟩) (by assumption) ?rcm2
            case ycm2 => (intro wq hSw; (try dsimp only at hSw); go_simp; try with_reducible rfl)
            simp only [Act.put, List.setIfInBounds_toArray, List.set_cons_zero, List.set_cons_succ]
            refine wpAnyH_take (i := 3) (oi := { dst := some 82, op := Go.Op.move (Go.Operand.tmp 11), type := 3, pos := "law.go:111", after := #[], guard := none }) (v := ?vcm3) rfl (by kernel_rfl) (by kernel_rfl) (by kernel_rfl) (fun _ _ _ h => h) (Or.inl ⟨by rfl, ?ycm3⟩) (by assumption) ?rcm3
            case ycm3 => (intro wq hSw; (try dsimp only at hSw); go_simp; try with_reducible rfl)
            simp only [Act.put, List.setIfInBounds_toArray, List.set_cons_zero, List.set_cons_succ]
            refine wpAnyH_take (i := 4) (oi := { dst := some 83, op := Go.Op.indexAddr 26 (Go.Operand.tmp 81) (Go.Operand.tmp 82), type := 0, pos := "law.go:111", after := #[{ on := 2, ground := Go.Ground.data }, { on := 3, ground := Go.Ground.data }], guard := none }) (v := ?vcm4) rfl (by kernel_rfl) (by kernel_rfl) (by kernel_rfl) (fun _ _ _ h => h) (Or.inl ⟨by rfl, ?ycm4⟩) (by assumption) ?rcm4
            case ycm4 => (intro wq hSw; (try dsimp only at hSw); go_simp; try with_reducible rfl)
            simp only [Act.put, List.setIfInBounds_toArray, List.set_cons_zero, List.set_cons_succ]
            refine wpAnyH_take (i := 5) (oi := { dst := some 84, op := Go.Op.load 3 (Go.Operand.tmp 83), type := 3, pos := "law.go:111", after := #[{ on := 4, ground := Go.Ground.data }], guard := none }) (v := ?vcm5) rfl (by kernel_rfl) (by kernel_rfl) (by kernel_rfl) (fun _ _ _ h => h) (Or.inl ⟨by rfl, ?ycm5⟩) (by assumption) ?rcm5
            case ycm5 => (intro wq hSw; (try dsimp only at hSw); go_simp; try with_reducible rfl)
            simp only [Act.put, List.setIfInBounds_toArray, List.set_cons_zero, List.set_cons_succ]
            refine wpAnyH_take (i := 7) (oi := { dst := some 86, op := Go.Op.move (Go.Operand.tmp 14), type := 4, pos := "law.go:111", after := #[], guard := none }) (v := ?vcm7) rfl (by kernel_rfl) (by kernel_rfl) (by kernel_rfl) (fun _ _ _ h => h) (Or.inl ⟨by rfl, ?ycm7⟩) (by assumption) ?rcm7
            case ycm7 => (intro wq hSw; (try dsimp only at hSw); go_simp; try with_reducible rfl)
            simp only [Act.put, List.setIfInBounds_toArray, List.set_cons_zero, List.set_cons_succ]
            refine wpAnyH_ready (rs := [6]) (by kernel_rfl) (by simp) (AllReadyH.cons (o := { dst := some 85, op := Go.Op.call { callee := Go.Callee.value (Go.Operand.func 15), args := #[Go.Operand.tmp 79, Go.Operand.tmp 80, Go.Operand.tmp 84], argTypes := #[25, 30, 3] }, type := 4, pos := "law.go:111", after := #[{ on := 0, ground := Go.Ground.data }, { on := 1, ground := Go.Ground.data }, { on := 5, ground := Go.Ground.data }], guard := none }) rfl (fun K hK => ?_) AllReadyH.nil)
            go_simp
            go_at_call 15; refine (HF3.out _ (C6.out.kept KE.out)).mono ?_
            rintro e z1 ⟨rfl, r1⟩
            have KF := Lib.hid (KE.out.trans r1)
            refine Shut.out hK _ _ (CD.out _ KF.out) (fun hSb => ?_)
            clear hK K
            try simp only [Act.put, List.setIfInBounds_toArray, List.set_cons_zero, List.set_cons_succ]
            refine wpAnyH_take (i := 8) (oi := { dst := some 87, op := Go.Op.binOp Go.BinOp.neq 4 (Go.Operand.tmp 85) (Go.Operand.tmp 86) 4, type := 4, pos := "law.go:111", after := #[{ on := 6, ground := Go.Ground.data }, { on := 7, ground := Go.Ground.data }], guard := none }) (v := ?vcm8) rfl (by kernel_rfl) (by kernel_rfl) (by kernel_rfl) (fun _ _ _ h => h) (Or.inl ⟨by rfl, ?ycm8⟩) (by assumption) ?rcm8
            case ycm8 => (intro wq hSw; (try dsimp only at hSw); go_simp; try with_reducible rfl)
            simp only [Act.put, List.setIfInBounds_toArray, List.set_cons_zero, List.set_cons_succ]
            refine wpAnyH_done (by kernel_rfl) ?_ _
            clear hSb hS0
            go_wp2
            go_roundw
            case rel => exact ⟨HK.out.trans KF.out, k + 1, hlt, by go_num⟩
            case measure => simp [intOf]; omega
          · have kb : ((k : Int) == 0) = false := beq_eq_false_iff_ne.2 (by omega)
            have HF3 := Lib.hid (show ∀ x, Cr x sl c.L → Calls Tryz.prog 15 #[zoV z, crV sl c.st, .int .i64 u] x fun e x' => e = .returned (.bool false) ∧ Kept x x' from fun x hx => by have := HFR2.out x hx; rw [HW.out, decide_eq_false k0, Bool.false_and] at this; exact this)
            clear k0 HW
            go_upto_region 12 with (fail)
            clear p0
            have KE := Lib.hid (KX.out.drew)
            refine wp_region_held_drew (S := (fun y => y.cell? ⟨w.heap.size, 0, none⟩ = some (.string ⟨z.std.toArray⟩) ∧ y.cell? ⟨w.heap.size, 1, none⟩ = some (.int .i64 z.off) ∧ y.cell? ⟨w.heap.size, 2, none⟩ = some (.bool z.has) ∧ y.cell? ⟨w.heap.size, 3, none⟩ = some (.string ⟨z.dst.toArray⟩) ∧ y.cell? ⟨w.heap.size, 4, none⟩ = some (.int .i64 z.ahead) ∧ y.cell? ⟨w.heap.size, 5, none⟩ = some (.int .i64 z.fr.k) ∧ y.cell? ⟨w.heap.size, 6, none⟩ = some (.int .i64 z.fr.m) ∧ y.cell? ⟨w.heap.size, 7, none⟩ = some (.int .i64 z.fr.w) ∧ y.cell? ⟨w.heap.size, 8, none⟩ = some (.int .i64 z.fr.d) ∧ y.cell? ⟨w.heap.size, 9, none⟩ = some (.int .i64 z.fr.a) ∧ y.cell? ⟨w.heap.size, 10, none⟩ = some (.int .i64 z.to.k) ∧ y.cell? ⟨w.heap.size, 11, none⟩ = some (.int .i64 z.to.m) ∧ y.cell? ⟨w.heap.size, 12, none⟩ = some (.int .i64 z.to.w) ∧ y.cell? ⟨w.heap.size, 13, none⟩ = some (.int .i64 z.to.d) ∧ y.cell? ⟨w.heap.size, 14, none⟩ = some (.int .i64 z.to.a) ∧ y.cell? ⟨w.heap.size + 1, 0, none⟩ = some (sl 0) ∧ y.cell? ⟨w.heap.size + 1, 1, none⟩ = some (sl 1) ∧ y.cell? ⟨w.heap.size + 1, 2, none⟩ = some (sl 2) ∧ y.cell? ⟨w.heap.size + 1, 3, none⟩ = some (sl 3) ∧ y.cell? ⟨w.heap.size + 1, 4, none⟩ = some (sl 4) ∧ y.cell? ⟨w.heap.size + 1, 5, none⟩ = some (.bool (c.st 0)) ∧ y.cell? ⟨w.heap.size + 1, 6, none⟩ = some (.bool (c.st 1)) ∧ y.cell? ⟨w.heap.size + 1, 7, none⟩ = some (.bool (c.st 2)) ∧ y.cell? ⟨w.heap.size + 1, 8, none⟩ = some (.bool (c.st 3)) ∧ y.cell? ⟨w.heap.size + 1, 9, none⟩ = some (.bool (c.st 4)) ∧ y.cell? ⟨lb, k, none⟩ = some (.int .i64 u))) (by kernel_rfl) (CD.out _ KE.out) (fun hS0 => ?_)
            refine wpAnyH_take (i := 0) (oi := { dst := some 79, op := Go.Op.load 25 (Go.Operand.tmp 3), type := 25, pos := "law.go:111", after := #[], guard := none }) (v := ?vcn0) rfl (by kernel_rfl) (by kernel_rfl) (by kernel_rfl) (fun _ _ _ h => h) (Or.inl ⟨by rfl, ?ycn0⟩) (by assumption) ?rcn0
            case ycn0 => (intro wq hSw; (try dsimp only at hSw); go_simp; try with_reducible rfl)
            simp only [Act.put, List.setIfInBounds_toArray, List.set_cons_zero, List.set_cons_succ]
            refine wpAnyH_take (i := 1) (oi := { dst := some 80, op := Go.Op.load 30 (Go.Operand.tmp 4), type := 30, pos := "law.go:111", after := #[], guard := none }) (v := ?vcn1) rfl (by kernel_rfl) (by kernel_rfl) (by kernel_rfl) (fun _ _ _ h => h) (Or.inl ⟨by rfl, ?ycn1⟩) (by assumption) ?rcn1
            case ycn1 => (intro wq hSw; (try dsimp only at hSw); go_simp; try with_reducible rfl)
            simp only [Act.put, List.setIfInBounds_toArray, List.set_cons_zero, List.set_cons_succ]
            refine wpAnyH_take (i := 2) (oi := { dst := some 81, op := Go.Op.move (Go.Operand.tmp 9), type := 26, pos := "law.go:111", after := #[], guard := none }) (v := ?vcn2) rfl (by kernel_rfl) (by kernel_rfl) (by kernel_rfl) (fun _ _ _ h => h) (Or.inl ⟨by rfl, ?ycn2⟩) (by assumption) ?rcn2
            case ycn2 => (intro wq hSw; (try dsimp only at hSw); go_simp; try with_reducible rfl)
            simp only [Act.put, List.setIfInBounds_toArray, List.set_cons_zero, List.set_cons_succ]
            refine wpAnyH_take (i := 3) (oi := { dst := some 82, op := Go.Op.move (Go.Operand.tmp 11), type := 3, pos := "law.go:111", after := #[], guard := none }) (v := ?vcn3) rfl (by kernel_rfl) (by kernel_rfl) (by kernel_rfl) (fun _ _ _ h => h) (Or.inl ⟨by rfl, ?ycn3⟩) (by assumption) ?rcn3
            case ycn3 => (intro wq hSw; (try dsimp only at hSw); go_simp; try with_reducible rfl)
            simp only [Act.put, List.setIfInBounds_toArray, List.set_cons_zero, List.set_cons_succ]
            refine wpAnyH_take (i := 4) (oi := { dst := some 83, op := Go.Op.indexAddr 26 (Go.Operand.tmp 81) (Go.Operand.tmp 82), type := 0, pos := "law.go:111", after := #[{ on := 2, ground := Go.Ground.data }, { on := 3, ground := Go.Ground.data }], guard := none }) (v := ?vcn4) rfl (by kernel_rfl) (by kernel_rfl) (by kernel_rfl) (fun _ _ _ h => h) (Or.inl ⟨by rfl, ?ycn4⟩) (by assumption) ?rcn4
            case ycn4 => (intro wq hSw; (try dsimp only at hSw); go_simp; try with_reducible rfl)
            simp only [Act.put, List.setIfInBounds_toArray, List.set_cons_zero, List.set_cons_succ]
            refine wpAnyH_take (i := 5) (oi := { dst := some 84, op := Go.Op.load 3 (Go.Operand.tmp 83), type := 3, pos := "law.go:111", after := #[{ on := 4, ground := Go.Ground.data }], guard := none }) (v := ?vcn5) rfl (by kernel_rfl) (by kernel_rfl) (by kernel_rfl) (fun _ _ _ h => h) (Or.inl ⟨by rfl, ?ycn5⟩) (by assumption) ?rcn5
            case ycn5 => (intro wq hSw; (try dsimp only at hSw); go_simp; try with_reducible rfl)
            simp only [Act.put, List.setIfInBounds_toArray, List.set_cons_zero, List.set_cons_succ]
            refine wpAnyH_take (i := 7) (oi := { dst := some 86, op := Go.Op.move (Go.Operand.tmp 14), type := 4, pos := "law.go:111", after := #[], guard := none }) (v := ?vcn7) rfl (by kernel_rfl) (by kernel_rfl) (by kernel_rfl) (fun _ _ _ h => h) (Or.inl ⟨by rfl, ?ycn7⟩) (by assumption) ?rcn7
            case ycn7 => (intro wq hSw; (try dsimp only at hSw); go_simp; try with_reducible rfl)
            simp only [Act.put, List.setIfInBounds_toArray, List.set_cons_zero, List.set_cons_succ]
            refine wpAnyH_ready (rs := [6]) (by kernel_rfl) (by simp) (AllReadyH.cons (o := { dst := some 85, op := Go.Op.call { callee := Go.Callee.value (Go.Operand.func 15), args := #[Go.Operand.tmp 79, Go.Operand.tmp 80, Go.Operand.tmp 84], argTypes := #[25, 30, 3] }, type := 4, pos := "law.go:111", after := #[{ on := 0, ground := Go.Ground.data }, { on := 1, ground := Go.Ground.data }, { on := 5, ground := Go.Ground.data }], guard := none }) rfl (fun K hK => ?_) AllReadyH.nil)
            go_simp
            go_at_call 15; refine (HF3.out _ (C6.out.kept KE.out)).mono ?_
            rintro e z1 ⟨rfl, r1⟩
            have KF := Lib.hid (KE.out.trans r1)
            refine Shut.out hK _ _ (CD.out _ KF.out) (fun hSb => ?_)
            clear hK K
            try simp only [Act.put, List.setIfInBounds_toArray, List.set_cons_zero, List.set_cons_succ]
            refine wpAnyH_take (i := 8) (oi := { dst := some 87, op := Go.Op.binOp Go.BinOp.neq 4 (Go.Operand.tmp 85) (Go.Operand.tmp 86) 4, type := 4, pos := "law.go:111", after := #[{ on := 6, ground := Go.Ground.data }, { on := 7, ground := Go.Ground.data }], guard := none }) (v := ?vcn8) rfl (by kernel_rfl) (by kernel_rfl) (by kernel_rfl) (fun _ _ _ h => h) (Or.inl ⟨by rfl, ?ycn8⟩) (by assumption) ?rcn8
            case ycn8 => (intro wq hSw; (try dsimp only at hSw); go_simp; try with_reducible rfl)
            simp only [Act.put, List.setIfInBounds_toArray, List.set_cons_zero, List.set_cons_succ]
            refine wpAnyH_done (by kernel_rfl) ?_ _
            clear hSb hS0
            go_wp2
            go_roundw
            case rel => exact ⟨HK.out.trans KF.out, k + 1, hlt, by go_num⟩
            case measure => simp [intOf]; omega
        · go_simp
          have QA := Lib.hid (KD.out.alloc (.cells (six6 six0) 34))
          refine Shut.out hK _ _ (CD.out _ QA.out) (fun hSb => ?_)
          clear hK K
          try simp only [Act.put, List.setIfInBounds_toArray, List.set_cons_zero, List.set_cons_succ]
          refine wpAnyH_ready (rs := [5]) (by kernel_rfl) (by simp) (AllReadyH.cons (o := { dst := some 53, op := Go.Op.call { callee := Go.Callee.value (Go.Operand.func 12), args := #[Go.Operand.tmp 48, Go.Operand.tmp 52], argTypes := #[25, 3] }, type := 35, pos := "law.go:106", after := #[{ on := 0, ground := Go.Ground.data }, { on := 4, ground := Go.Ground.data }], guard := none }) rfl (fun K hK => ?_) AllReadyH.nil)
          go_simp
          go_at_call 12; refine (HGP.out _).mono ?_
          rintro e y1 ⟨rfl, q1⟩
          have Q1 := Lib.hid (QA.out.trans q1)
          have HZB := Lib.hid ((q1.block _ (by simp)).trans (sbox_z wr.drew))
          clear q1
          refine Shut.out hK _ _ (CD.out _ Q1.out) (fun hSb => ?_)
          clear hK K
          try simp only [Act.put, List.setIfInBounds_toArray, List.set_cons_zero, List.set_cons_succ]
          refine wpAnyH_take (i := 6) (oi := { dst := some 47, op := Go.Op.move (Go.Operand.tmp 53), type := 35, pos := "law.go:106", after := #[{ on := 5, ground := Go.Ground.data }], guard := none }) (v := ?vd6) rfl (by kernel_rfl) (by kernel_rfl) (by kernel_rfl) (fun _ _ _ h => h) (Or.inl ⟨by rfl, ?yd6⟩) (by assumption) ?rd6
          case yd6 => (intro wq hSw; (try dsimp only at hSw); go_simp; try with_reducible rfl)
          simp only [Act.put, List.setIfInBounds_toArray, List.set_cons_zero, List.set_cons_succ]
          refine wpAnyH_take (i := 7) (oi := { dst := some 54, op := Go.Op.extract (Go.Operand.tmp 47) 0, type := 3, pos := "law.go:106", after := #[{ on := 6, ground := Go.Ground.data }], guard := none }) (v := ?vd7) rfl (by kernel_rfl) (by kernel_rfl) (by kernel_rfl) (fun _ _ _ h => h) (Or.inl ⟨by rfl, ?yd7⟩) (by assumption) ?rd7
          case yd7 => (intro wq hSw; (try dsimp only at hSw); go_simp; try with_reducible rfl)
          simp only [Act.put, List.setIfInBounds_toArray, List.set_cons_zero, List.set_cons_succ]
          refine wpAnyH_take (i := 8) (oi := { dst := some 55, op := Go.Op.extract (Go.Operand.tmp 47) 1, type := 34, pos := "law.go:106", after := #[{ on := 6, ground := Go.Ground.data }, { on := 10, ground := Go.Ground.gcOnly Go.Departure.lateStores }], guard := none }) (v := ?vd8) rfl (by kernel_rfl) (by kernel_rfl) (by kernel_rfl) (fun _ _ _ h => h) (Or.inl ⟨by rfl, ?yd8⟩) (by assumption) ?rd8
          case yd8 => (intro wq hSw; (try dsimp only at hSw); go_simp; try with_reducible rfl)
          simp only [Act.put, List.setIfInBounds_toArray, List.set_cons_zero, List.set_cons_succ]
          refine wpAnyH_take (i := 10) (oi := { dst := some 12, op := Go.Op.assign (Go.Operand.tmp 54), type := 3, pos := "law.go:106", after := #[{ on := 7, ground := Go.Ground.data }, { on := 5, ground := Go.Ground.chain }, { on := 0, ground := Go.Ground.phase }, { on := 1, ground := Go.Ground.phase }, { on := 2, ground := Go.Ground.phase }, { on := 3, ground := Go.Ground.phase }, { on := 4, ground := Go.Ground.phase }, { on := 5, ground := Go.Ground.phase }, { on := 6, ground := Go.Ground.phase }, { on := 7, ground := Go.Ground.phase }, { on := 8, ground := Go.Ground.textOnly Go.Departure.lateStores }, { on := 9, ground := Go.Ground.phase }], guard := none }) (v := ?vd10) rfl (by kernel_rfl) (by kernel_rfl) (by kernel_rfl) (fun _ _ _ h => h) (Or.inl ⟨by rfl, ?yd10⟩) (by assumption) ?rd10
          case yd10 => (intro wq hSw; (try dsimp only at hSw); go_simp; try with_reducible rfl)
          simp only [Act.put, List.setIfInBounds_toArray, List.set_cons_zero, List.set_cons_succ]
          refine wpAnyH_ready (rs := [11]) (by kernel_rfl) (by simp) (AllReadyH.cons (o := { dst := none, op := Go.Op.store 34 (Go.Operand.tmp 13) (Go.Operand.tmp 55), type := 0, pos := "law.go:106", after := #[{ on := 9, ground := Go.Ground.data }, { on := 8, ground := Go.Ground.data }, { on := 10, ground := Go.Ground.chain }, { on := 0, ground := Go.Ground.phase }, { on := 1, ground := Go.Ground.phase }, { on := 2, ground := Go.Ground.phase }, { on := 3, ground := Go.Ground.phase }, { on := 4, ground := Go.Ground.phase }, { on := 5, ground := Go.Ground.phase }, { on := 6, ground := Go.Ground.phase }, { on := 7, ground := Go.Ground.phase }, { on := 8, ground := Go.Ground.phase }, { on := 9, ground := Go.Ground.phase }, { on := 10, ground := Go.Ground.phase }], guard := none }) rfl (fun K hK => ?_) AllReadyH.nil)
          rw [if_pos (by rfl)]
          refine wp_store_row 34 _ _ rfl wr.drew.heap.size (six6 (gC z u)) rfl rfl 34 (six6 six0) HZB.out (by kernel_rfl) rfl (by simp [Value.oneCell']) ?_
          have KX := Lib.hid (Q1.out.setRow (show wr.heap.size ≤ wr.drew.heap.size from KD.out.size) (six6 (gC z u)))
          refine Shut.out hK _ _ (CD.out _ KX.out) (fun hSb => ?_)
          clear hK K
          try simp only [Act.put]
          refine wpAnyH_done (by kernel_rfl) ?_ _
          clear hSb hS0 Q1 QA HZB
          generalize y1.setRow wr.drew.heap.size (six6 (gC z u)) = x9 at *
          have p0 : x9.cell? ⟨lb, k, none⟩ = some (.int .i64 u) := (KX.out.cell (a := ⟨lb, k, none⟩) (lt_cell HCW.out)).trans HCW.out
          obtain ⟨gb1, gb2⟩ := gN_bd z u
          by_cases n1 : 0 < gN z u
          · go_wp2
            go_roundw
            case rel => exact ⟨HK.out.trans KX.out, k + 1, hlt, by go_num⟩
            case measure => simp [intOf]; omega
          have n1e : gN z u = 0 := by omega
          by_cases n2 : u < 86400
          · clear n1e
            go_wp2
            go_roundw
            case rel => exact ⟨HK.out.trans KX.out, k + 1, hlt, by go_num⟩
            case measure => simp [intOf]; omega
          by_cases n3 : 253402214400 < u
          · clear n1e
            go_wp2
            go_roundw
            case rel => exact ⟨HK.out.trans KX.out, k + 1, hlt, by go_num⟩
            case measure => simp [intOf]; omega
          have HW := Lib.hid (HON2.out n1e (by omega) (by omega))
          clear n1e
          have Z9 := Lib.hid (Z6.out.kept KX.out); have B9 := Lib.hid (B6.out.kept KX.out); have C9 := Lib.hid (C6.out.kept KX.out); have Q9 := Lib.hid ((KX.out.block _ (Array.getElem?_eq_some_iff.1 Q6.out).1).trans Q6.out)
          have HFR2 := Lib.hid HFR.out
          by_cases k0 : k = 0
          · have kb : ((k : Int) == 0) = true := by subst k0; rfl
            have HF3 := Lib.hid (show ∀ x, Cr x sl c.L → Calls Tryz.prog 15 #[zoV z, crV sl c.st, .int .i64 u] x fun e x' => e = .returned (.bool (mtS c q)) ∧ Kept x x' from fun x hx => by have := HFR2.out x hx; rw [HW.out, decide_eq_true k0, Bool.true_and] at this; exact this)
            clear k0 HW
            obtain ⟨e0, e1, e2, e3, e4, e5, e6, e7, e8, e9⟩ := cells10 B9.out
            have w0 := cell_of (j := 0) Q9.out rfl
            have w1 := cell_of (j := 1) Q9.out rfl
            have w2 := cell_of (j := 2) Q9.out rfl
            have w3 := cell_of (j := 3) Q9.out rfl
            have w4 := cell_of (j := 4) Q9.out rfl
            have w5 := cell_of (j := 5) Q9.out rfl
            go_wp2_with fail
            refine (match_any c sl q.y q.m q.d q.h q.i q.s _ C9.out).mono ?_
            rintro e xb ⟨rfl, kx⟩
            clear e0 e1 e2 e3 e4 e5 e6 e7 e8 e9 w0 w1 w2 w3 w4 w5 p0
            have KG := Lib.hid (KX.out.trans kx)
            clear kx
            have p0 : xb.cell? ⟨lb, k, none⟩ = some (.int .i64 u) := (KG.out.cell (a := ⟨lb, k, none⟩) (lt_cell HCW.out)).trans HCW.out
            have HMM : matchC c q.y q.m q.d q.h q.i q.s = mtS c q := rfl
            rw [HMM]
            clear HMM
            generalize mtS c q = mt at *
            go_upto_region 12 with (fail)
            clear p0
            have KE := Lib.hid (KG.out.drew)
            refine wp_region_held_drew (S := (fun y => y.cell? ⟨w.heap.size, 0, none⟩ = some (.string ⟨z.std.toArray⟩) ∧ y.cell? ⟨w.heap.size, 1, none⟩ = some (.int .i64 z.off) ∧ y.cell? ⟨w.heap.size, 2, none⟩ = some (.bool z.has) ∧ y.cell? ⟨w.heap.size, 3, none⟩ = some (.string ⟨z.dst.toArray⟩) ∧ y.cell? ⟨w.heap.size, 4, none⟩ = some (.int .i64 z.ahead) ∧ y.cell? ⟨w.heap.size, 5, none⟩ = some (.int .i64 z.fr.k) ∧ y.cell? ⟨w.heap.size, 6, none⟩ = some (.int .i64 z.fr.m) ∧ y.cell? ⟨w.heap.size, 7, none⟩ = some (.int .i64 z.fr.w) ∧ y.cell? ⟨w.heap.size, 8, none⟩ = some (.int .i64 z.fr.d) ∧ y.cell? ⟨w.heap.size, 9, none⟩ = some (.int .i64 z.fr.a) ∧ y.cell? ⟨w.heap.size, 10, none⟩ = some (.int .i64 z.to.k) ∧ y.cell? ⟨w.heap.size, 11, none⟩ = some (.int .i64 z.to.m) ∧ y.cell? ⟨w.heap.size, 12, none⟩ = some (.int .i64 z.to.w) ∧ y.cell? ⟨w.heap.size, 13, none⟩ = some (.int .i64 z.to.d) ∧ y.cell? ⟨w.heap.size, 14, none⟩ = some (.int .i64 z.to.a) ∧ y.cell? ⟨w.heap.size + 1, 0, none⟩ = some (sl 0) ∧ y.cell? ⟨w.heap.size + 1, 1, none⟩ = some (sl 1) ∧ y.cell? ⟨w.heap.size + 1, 2, none⟩ = some (sl 2) ∧ y.cell? ⟨w.heap.size + 1, 3, none⟩ = some (sl 3) ∧ y.cell? ⟨w.heap.size + 1, 4, none⟩ = some (sl 4) ∧ y.cell? ⟨w.heap.size + 1, 5, none⟩ = some (.bool (c.st 0)) ∧ y.cell? ⟨w.heap.size + 1, 6, none⟩ = some (.bool (c.st 1)) ∧ y.cell? ⟨w.heap.size + 1, 7, none⟩ = some (.bool (c.st 2)) ∧ y.cell? ⟨w.heap.size + 1, 8, none⟩ = some (.bool (c.st 3)) ∧ y.cell? ⟨w.heap.size + 1, 9, none⟩ = some (.bool (c.st 4)) ∧ y.cell? ⟨lb, k, none⟩ = some (.int .i64 u))) (by kernel_rfl) (CD.out _ KE.out) (fun hS0 => ?_)
            refine wpAnyH_take (i := 0) (oi := { dst := some 79, op := Go.Op.load 25 (Go.Operand.tmp 3), type := 25, pos := "law.go:111", after := #[], guard := none }) (v := ?vfm0) rfl (by kernel_rfl) (by kernel_rfl) (by kernel_rfl) (fun _ _ _ h => h) (Or.inl ⟨by rfl, ?yfm0⟩) (by assumption) ?rfm0
            case yfm0 => (intro wq hSw; (try dsimp only at hSw); go_simp; try with_reducible rfl)
            simp only [Act.put, List.setIfInBounds_toArray, List.set_cons_zero, List.set_cons_succ]
            refine wpAnyH_take (i := 1) (oi := { dst := some 80, op := Go.Op.load 30 (Go.Operand.tmp 4), type := 30, pos := "law.go:111", after := #[], guard := none }) (v := ?vfm1) rfl (by kernel_rfl) (by kernel_rfl) (by kernel_rfl) (fun _ _ _ h => h) (Or.inl ⟨by rfl, ?yfm1⟩) (by assumption) ?rfm1
            case yfm1 => (intro wq hSw; (try dsimp only at hSw); go_simp; try with_reducible rfl)
            simp only [Act.put, List.setIfInBounds_toArray, List.set_cons_zero, List.set_cons_succ]
            refine wpAnyH_take (i := 2) (oi := { dst := some 81, op := Go.Op.move (Go.Operand.tmp 9), type := 26, pos := "law.go:111", after := #[], guard := none }) (v := ?vfm2) rfl (by kernel_rfl) (by kernel_rfl) (by kernel_rfl) (fun _ _ _ h => h) (Or.inl ⟨by rfl, ?yfm2⟩) (by assumption) ?rfm2
            case yfm2 => (intro wq hSw; (try dsimp only at hSw); go_simp; try with_reducible rfl)
            simp only [Act.put, List.setIfInBounds_toArray, List.set_cons_zero, List.set_cons_succ]
            refine wpAnyH_take (i := 3) (oi := { dst := some 82, op := Go.Op.move (Go.Operand.tmp 11), type := 3, pos := "law.go:111", after := #[], guard := none }) (v := ?vfm3) rfl (by kernel_rfl) (by kernel_rfl) (by kernel_rfl) (fun _ _ _ h => h) (Or.inl ⟨by rfl, ?yfm3⟩) (by assumption) ?rfm3
            case yfm3 => (intro wq hSw; (try dsimp only at hSw); go_simp; try with_reducible rfl)
            simp only [Act.put, List.setIfInBounds_toArray, List.set_cons_zero, List.set_cons_succ]
            refine wpAnyH_take (i := 4) (oi := { dst := some 83, op := Go.Op.indexAddr 26 (Go.Operand.tmp 81) (Go.Operand.tmp 82), type := 0, pos := "law.go:111", after := #[{ on := 2, ground := Go.Ground.data }, { on := 3, ground := Go.Ground.data }], guard := none }) (v := ?vfm4) rfl (by kernel_rfl) (by kernel_rfl) (by kernel_rfl) (fun _ _ _ h => h) (Or.inl ⟨by rfl, ?yfm4⟩) (by assumption) ?rfm4
            case yfm4 => (intro wq hSw; (try dsimp only at hSw); go_simp; try with_reducible rfl)
            simp only [Act.put, List.setIfInBounds_toArray, List.set_cons_zero, List.set_cons_succ]
            refine wpAnyH_take (i := 5) (oi := { dst := some 84, op := Go.Op.load 3 (Go.Operand.tmp 83), type := 3, pos := "law.go:111", after := #[{ on := 4, ground := Go.Ground.data }], guard := none }) (v := ?vfm5) rfl (by kernel_rfl) (by kernel_rfl) (by kernel_rfl) (fun _ _ _ h => h) (Or.inl ⟨by rfl, ?yfm5⟩) (by assumption) ?rfm5
            case yfm5 => (intro wq hSw; (try dsimp only at hSw); go_simp; try with_reducible rfl)
            simp only [Act.put, List.setIfInBounds_toArray, List.set_cons_zero, List.set_cons_succ]
            refine wpAnyH_take (i := 7) (oi := { dst := some 86, op := Go.Op.move (Go.Operand.tmp 14), type := 4, pos := "law.go:111", after := #[], guard := none }) (v := ?vfm7) rfl (by kernel_rfl) (by kernel_rfl) (by kernel_rfl) (fun _ _ _ h => h) (Or.inl ⟨by rfl, ?yfm7⟩) (by assumption) ?rfm7
            case yfm7 => (intro wq hSw; (try dsimp only at hSw); go_simp; try with_reducible rfl)
            simp only [Act.put, List.setIfInBounds_toArray, List.set_cons_zero, List.set_cons_succ]
            refine wpAnyH_ready (rs := [6]) (by kernel_rfl) (by simp) (AllReadyH.cons (o := { dst := some 85, op := Go.Op.call { callee := Go.Callee.value (Go.Operand.func 15), args := #[Go.Operand.tmp 79, Go.Operand.tmp 80, Go.Operand.tmp 84], argTypes := #[25, 30, 3] }, type := 4, pos := "law.go:111", after := #[{ on := 0, ground := Go.Ground.data }, { on := 1, ground := Go.Ground.data }, { on := 5, ground := Go.Ground.data }], guard := none }) rfl (fun K hK => ?_) AllReadyH.nil)
            go_simp
            go_at_call 15; refine (HF3.out _ (C6.out.kept KE.out)).mono ?_
            rintro e z1 ⟨rfl, r1⟩
            have KF := Lib.hid (KE.out.trans r1)
            refine Shut.out hK _ _ (CD.out _ KF.out) (fun hSb => ?_)
            clear hK K
            try simp only [Act.put, List.setIfInBounds_toArray, List.set_cons_zero, List.set_cons_succ]
            refine wpAnyH_take (i := 8) (oi := { dst := some 87, op := Go.Op.binOp Go.BinOp.neq 4 (Go.Operand.tmp 85) (Go.Operand.tmp 86) 4, type := 4, pos := "law.go:111", after := #[{ on := 6, ground := Go.Ground.data }, { on := 7, ground := Go.Ground.data }], guard := none }) (v := ?vfm8) rfl (by kernel_rfl) (by kernel_rfl) (by kernel_rfl) (fun _ _ _ h => h) (Or.inl ⟨by rfl, ?yfm8⟩) (by assumption) ?rfm8
            case yfm8 => (intro wq hSw; (try dsimp only at hSw); go_simp; try with_reducible rfl)
            simp only [Act.put, List.setIfInBounds_toArray, List.set_cons_zero, List.set_cons_succ]
            refine wpAnyH_done (by kernel_rfl) ?_ _
            clear hSb hS0
            go_wp2
            go_roundw
            case rel => exact ⟨HK.out.trans KF.out, k + 1, hlt, by go_num⟩
            case measure => simp [intOf]; omega
          · have kb : ((k : Int) == 0) = false := beq_eq_false_iff_ne.2 (by omega)
            have HF3 := Lib.hid (show ∀ x, Cr x sl c.L → Calls Tryz.prog 15 #[zoV z, crV sl c.st, .int .i64 u] x fun e x' => e = .returned (.bool false) ∧ Kept x x' from fun x hx => by have := HFR2.out x hx; rw [HW.out, decide_eq_false k0, Bool.false_and] at this; exact this)
            clear k0 HW
            go_upto_region 12 with (fail)
            clear p0
            have KE := Lib.hid (KX.out.drew)
            refine wp_region_held_drew (S := (fun y => y.cell? ⟨w.heap.size, 0, none⟩ = some (.string ⟨z.std.toArray⟩) ∧ y.cell? ⟨w.heap.size, 1, none⟩ = some (.int .i64 z.off) ∧ y.cell? ⟨w.heap.size, 2, none⟩ = some (.bool z.has) ∧ y.cell? ⟨w.heap.size, 3, none⟩ = some (.string ⟨z.dst.toArray⟩) ∧ y.cell? ⟨w.heap.size, 4, none⟩ = some (.int .i64 z.ahead) ∧ y.cell? ⟨w.heap.size, 5, none⟩ = some (.int .i64 z.fr.k) ∧ y.cell? ⟨w.heap.size, 6, none⟩ = some (.int .i64 z.fr.m) ∧ y.cell? ⟨w.heap.size, 7, none⟩ = some (.int .i64 z.fr.w) ∧ y.cell? ⟨w.heap.size, 8, none⟩ = some (.int .i64 z.fr.d) ∧ y.cell? ⟨w.heap.size, 9, none⟩ = some (.int .i64 z.fr.a) ∧ y.cell? ⟨w.heap.size, 10, none⟩ = some (.int .i64 z.to.k) ∧ y.cell? ⟨w.heap.size, 11, none⟩ = some (.int .i64 z.to.m) ∧ y.cell? ⟨w.heap.size, 12, none⟩ = some (.int .i64 z.to.w) ∧ y.cell? ⟨w.heap.size, 13, none⟩ = some (.int .i64 z.to.d) ∧ y.cell? ⟨w.heap.size, 14, none⟩ = some (.int .i64 z.to.a) ∧ y.cell? ⟨w.heap.size + 1, 0, none⟩ = some (sl 0) ∧ y.cell? ⟨w.heap.size + 1, 1, none⟩ = some (sl 1) ∧ y.cell? ⟨w.heap.size + 1, 2, none⟩ = some (sl 2) ∧ y.cell? ⟨w.heap.size + 1, 3, none⟩ = some (sl 3) ∧ y.cell? ⟨w.heap.size + 1, 4, none⟩ = some (sl 4) ∧ y.cell? ⟨w.heap.size + 1, 5, none⟩ = some (.bool (c.st 0)) ∧ y.cell? ⟨w.heap.size + 1, 6, none⟩ = some (.bool (c.st 1)) ∧ y.cell? ⟨w.heap.size + 1, 7, none⟩ = some (.bool (c.st 2)) ∧ y.cell? ⟨w.heap.size + 1, 8, none⟩ = some (.bool (c.st 3)) ∧ y.cell? ⟨w.heap.size + 1, 9, none⟩ = some (.bool (c.st 4)) ∧ y.cell? ⟨lb, k, none⟩ = some (.int .i64 u))) (by kernel_rfl) (CD.out _ KE.out) (fun hS0 => ?_)
            refine wpAnyH_take (i := 0) (oi := { dst := some 79, op := Go.Op.load 25 (Go.Operand.tmp 3), type := 25, pos := "law.go:111", after := #[], guard := none }) (v := ?vfn0) rfl (by kernel_rfl) (by kernel_rfl) (by kernel_rfl) (fun _ _ _ h => h) (Or.inl ⟨by rfl, ?yfn0⟩) (by assumption) ?rfn0
            case yfn0 => (intro wq hSw; (try dsimp only at hSw); go_simp; try with_reducible rfl)
            simp only [Act.put, List.setIfInBounds_toArray, List.set_cons_zero, List.set_cons_succ]
            refine wpAnyH_take (i := 1) (oi := { dst := some 80, op := Go.Op.load 30 (Go.Operand.tmp 4), type := 30, pos := "law.go:111", after := #[], guard := none }) (v := ?vfn1) rfl (by kernel_rfl) (by kernel_rfl) (by kernel_rfl) (fun _ _ _ h => h) (Or.inl ⟨by rfl, ?yfn1⟩) (by assumption) ?rfn1
            case yfn1 => (intro wq hSw; (try dsimp only at hSw); go_simp; try with_reducible rfl)
            simp only [Act.put, List.setIfInBounds_toArray, List.set_cons_zero, List.set_cons_succ]
            refine wpAnyH_take (i := 2) (oi := { dst := some 81, op := Go.Op.move (Go.Operand.tmp 9), type := 26, pos := "law.go:111", after := #[], guard := none }) (v := ?vfn2) rfl (by kernel_rfl) (by kernel_rfl) (by kernel_rfl) (fun _ _ _ h => h) (Or.inl ⟨by rfl, ?yfn2⟩) (by assumption) ?rfn2
            case yfn2 => (intro wq hSw; (try dsimp only at hSw); go_simp; try with_reducible rfl)
            simp only [Act.put, List.setIfInBounds_toArray, List.set_cons_zero, List.set_cons_succ]
            refine wpAnyH_take (i := 3) (oi := { dst := some 82, op := Go.Op.move (Go.Operand.tmp 11), type := 3, pos := "law.go:111", after := #[], guard := none }) (v := ?vfn3) rfl (by kernel_rfl) (by kernel_rfl) (by kernel_rfl) (fun _ _ _ h => h) (Or.inl ⟨by rfl, ?yfn3⟩) (by assumption) ?rfn3
            case yfn3 => (intro wq hSw; (try dsimp only at hSw); go_simp; try with_reducible rfl)
            simp only [Act.put, List.setIfInBounds_toArray, List.set_cons_zero, List.set_cons_succ]
            refine wpAnyH_take (i := 4) (oi := { dst := some 83, op := Go.Op.indexAddr 26 (Go.Operand.tmp 81) (Go.Operand.tmp 82), type := 0, pos := "law.go:111", after := #[{ on := 2, ground := Go.Ground.data }, { on := 3, ground := Go.Ground.data }], guard := none }) (v := ?vfn4) rfl (by kernel_rfl) (by kernel_rfl) (by kernel_rfl) (fun _ _ _ h => h) (Or.inl ⟨by rfl, ?yfn4⟩) (by assumption) ?rfn4
            case yfn4 => (intro wq hSw; (try dsimp only at hSw); go_simp; try with_reducible rfl)
            simp only [Act.put, List.setIfInBounds_toArray, List.set_cons_zero, List.set_cons_succ]
            refine wpAnyH_take (i := 5) (oi := { dst := some 84, op := Go.Op.load 3 (Go.Operand.tmp 83), type := 3, pos := "law.go:111", after := #[{ on := 4, ground := Go.Ground.data }], guard := none }) (v := ?vfn5) rfl (by kernel_rfl) (by kernel_rfl) (by kernel_rfl) (fun _ _ _ h => h) (Or.inl ⟨by rfl, ?yfn5⟩) (by assumption) ?rfn5
            case yfn5 => (intro wq hSw; (try dsimp only at hSw); go_simp; try with_reducible rfl)
            simp only [Act.put, List.setIfInBounds_toArray, List.set_cons_zero, List.set_cons_succ]
            refine wpAnyH_take (i := 7) (oi := { dst := some 86, op := Go.Op.move (Go.Operand.tmp 14), type := 4, pos := "law.go:111", after := #[], guard := none }) (v := ?vfn7) rfl (by kernel_rfl) (by kernel_rfl) (by kernel_rfl) (fun _ _ _ h => h) (Or.inl ⟨by rfl, ?yfn7⟩) (by assumption) ?rfn7
            case yfn7 => (intro wq hSw; (try dsimp only at hSw); go_simp; try with_reducible rfl)
            simp only [Act.put, List.setIfInBounds_toArray, List.set_cons_zero, List.set_cons_succ]
            refine wpAnyH_ready (rs := [6]) (by kernel_rfl) (by simp) (AllReadyH.cons (o := { dst := some 85, op := Go.Op.call { callee := Go.Callee.value (Go.Operand.func 15), args := #[Go.Operand.tmp 79, Go.Operand.tmp 80, Go.Operand.tmp 84], argTypes := #[25, 30, 3] }, type := 4, pos := "law.go:111", after := #[{ on := 0, ground := Go.Ground.data }, { on := 1, ground := Go.Ground.data }, { on := 5, ground := Go.Ground.data }], guard := none }) rfl (fun K hK => ?_) AllReadyH.nil)
            go_simp
            go_at_call 15; refine (HF3.out _ (C6.out.kept KE.out)).mono ?_
            rintro e z1 ⟨rfl, r1⟩
            have KF := Lib.hid (KE.out.trans r1)
            refine Shut.out hK _ _ (CD.out _ KF.out) (fun hSb => ?_)
            clear hK K
            try simp only [Act.put, List.setIfInBounds_toArray, List.set_cons_zero, List.set_cons_succ]
            refine wpAnyH_take (i := 8) (oi := { dst := some 87, op := Go.Op.binOp Go.BinOp.neq 4 (Go.Operand.tmp 85) (Go.Operand.tmp 86) 4, type := 4, pos := "law.go:111", after := #[{ on := 6, ground := Go.Ground.data }, { on := 7, ground := Go.Ground.data }], guard := none }) (v := ?vfn8) rfl (by kernel_rfl) (by kernel_rfl) (by kernel_rfl) (fun _ _ _ h => h) (Or.inl ⟨by rfl, ?yfn8⟩) (by assumption) ?rfn8
            case yfn8 => (intro wq hSw; (try dsimp only at hSw); go_simp; try with_reducible rfl)
            simp only [Act.put, List.setIfInBounds_toArray, List.set_cons_zero, List.set_cons_succ]
            refine wpAnyH_done (by kernel_rfl) ?_ _
            clear hSb hS0
            go_wp2
            go_roundw
            case rel => exact ⟨HK.out.trans KF.out, k + 1, hlt, by go_num⟩
            case measure => simp [intOf]; omega
end Go.Proofs.YtilgamjahediiaaGreatDoor
