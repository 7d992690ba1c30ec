/- Package reply: a reader's small functions: a line is added, an answer is whole; Bad, Left, New. -/
import Derived.Test.YtdfmnjoklehifaaDoorRpE
import Derived.Test.YtdfmnjoklehifaaDoorRpL
set_option linter.unusedSimpArgs false
set_option linter.unusedVariables false
namespace Go.Proofs.YtdfmnjoklehifaaDoor.Bk.Rp
open Go.ChangeShapes Go.WideShapes Go.ChangeAt Go.RowKit Go.Shelf
/-- all but some blocks is as it was -/
structure Ex (p : Nat → Prop) (w w' : World) : Prop where
  os : w'.os = w.os
  tape : w'.tape = w.tape
  output : w'.output = w.output
  size : w.heap.size ≤ w'.heap.size
  block : ∀ k, k < w.heap.size → ¬ p k → w'.heap[k]? = w.heap[k]?
theorem Ex.refl (p : Nat → Prop) (w : World) : Ex p w w := ⟨rfl, rfl, rfl, Nat.le_refl _, fun _ _ _ => rfl⟩
theorem Ex.trans {p : Nat → Prop} {w x y : World} (h : Ex p w x) (k : Ex p x y) : Ex p w y :=
  ⟨k.os.trans h.os, k.tape.trans h.tape, k.output.trans h.output, Nat.le_trans h.size k.size, fun j hj hp => (k.block j (Nat.lt_of_lt_of_le hj h.size) hp).trans (h.block j hj hp)⟩
theorem Ex.mono {p q : Nat → Prop} {w x : World} (h : Ex p w x) (hp : ∀ k, k < w.heap.size → p k → q k) : Ex q w x := ⟨h.os, h.tape, h.output, h.size, fun k hk hq => h.block k hk (fun e => hq (hp k hk e))⟩
theorem Ex.of {p : Nat → Prop} {w x : World} (k : Kept w x) : Ex p w x := ⟨k.os, k.tape, k.output, k.size, fun j hj _ => k.block j hj⟩
theorem Ex.set {p : Nat → Prop} {w x : World} (h : Ex p w x) {b : Nat} (hb : p b) (j : Nat) (v : Value) : Ex p w (x.setCell ⟨b, j, none⟩ v) :=
  h.trans ⟨rfl, rfl, rfl, by simp [World.setCell], fun k _ hp => Below.heap_setCell _ _ _ _ (fun e => hp (by rw [e]; exact hb))⟩
theorem Ex.grown {p : Nat → Prop} {w x y : World} {row : Option Nat} (h : Ex p w x) (hg : x.grownBy y row) (hr : ∀ k, row = some k → p k ∨ w.heap.size ≤ k) : Ex p w y :=
  ⟨hg.os.trans h.os, hg.tape.trans h.tape, hg.output.trans h.output, Nat.le_trans h.size hg.size, fun k hk hp => (hg.block k (Nat.lt_of_lt_of_le hk h.size) (fun e => by
    rcases hr k e.symm with q | q
    · exact hp q
    · omega)).trans (h.block k hk hp)⟩
theorem Ex.drew {p : Nat → Prop} {w x : World} (h : Ex p w x) : Ex p w x.drew := h.trans (Ex.of (Kept.refl x).drew)
theorem Ex.bo {D b : Nat} {p : Nat → Prop} {w w' : World} (h : Ex p w w') (hD : D ≤ w.heap.size) (hp : ∀ k, p k → k = b ∨ D ≤ k) : Bo D b w w' := ⟨h.os, h.tape, h.output, h.size, fun k hk hb => h.block k (by omega) (fun q => by rcases hp k q with q | q; (· exact hb q); (· omega))⟩
theorem own_ex {w w' : World} {B0 : Nat} {e : TypeId} {size : Nat} {v : Value} {n : Nat} {xs : List Value} {p : Nat → Prop} (h : w.ownsRow B0 e size v n xs) (k : Ex p w w') (hp : ∀ g, v.ownBlock = some g → ¬ p g) : w'.ownsRow B0 e size v n xs :=
  ⟨h.1, h.2.imp id fun ⟨g, cap, cur, h1, h2, h3, h4⟩ => ⟨g, cap, cur, h1, h2, (k.block g (Array.getElem?_eq_some_iff.1 h3).1 (hp g (by rw [h1]; rfl))).trans h3, h4⟩⟩
/-- answers stay where a reader and its row turn -/
theorem RpU.ex {B0 D : Nat} {v : Value} {l : List Rep} {w w' : World} {p : Nat → Prop} (h : RpU B0 D v l w) (k : Ex p w w') (h1 : ∀ g, p g → ∀ c, w.heap[g]? ≠ some (.cells c 25 (0, 0))) (h2 : ∀ g, p g → D ≤ g ∨ ∀ c, w.heap[g]? ≠ some (.cells c 9 (0, 0))) : RpU B0 D v l w' := by
  obtain ⟨vs, hv, hR, hA⟩ := h
  refine ⟨vs, hv, own_ex hR k (fun g hg hp => ?_), fun i x u hx hu => ?_⟩
  · obtain ⟨c, hc⟩ := own_kind hR g hg
    exact h1 g hp c hc
  · obtain ⟨q1, q2⟩ := hA i x u hx hu
    refine ⟨own_ex q1 k (fun g hg hp => ?_), q2⟩
    rcases h2 g hp with q | q
    · have := q2 g hg; omega
    · obtain ⟨c, hc⟩ := own_kind q1 g hg
      exact q c hc
/-- non-cells stay where a reader and its row turn -/
theorem Ex.nc {p : Nat → Prop} {w w' : World} (k : Ex p w w') (hp : ∀ g, p g → ∀ o, w.heap[g]? = some o → o.isCells = true) : Nc w w' := ⟨k.size, fun g o hg hc => (k.block g (Array.getElem?_eq_some_iff.1 hg).1 (fun q => by rw [hp g q o hg] at hc; cases hc)).trans hg⟩
/-- a reader's block, and its row -/
def Rw (b : Nat) (lv : Value) (k : Nat) : Prop := k = b ∨ lv.ownBlock = some k
/-- how an adding ends -/
def AdP (D b : Nat) (c : Int) (ls : List B) (lv : Value) (r : B) (x : Int × Bool × B) (w : World) (e : Ending) (w' : World) : Prop :=
  if ls.length < 100 ∧ (ls = [] ∨ x.1 = c) then e = .returned (.tuple #[]) ∧ Ex (Rw b lv) w w' ∧ ∃ lv', RdB b false x.1 lv' r w' ∧ OwnS D lv' (ls ++ [x.2.2]) w' ∧ (∀ g, lv'.ownBlock = some g → lv.ownBlock = some g ∨ w.heap.size ≤ g)
  else e = gon ∧ Kept w w'
theorem RdB.other {b b' : Nat} {bad : Bool} {c : Int} {lv : Value} {r : B} {w : World} (h : RdB b bad c lv r w) (hne : b ≠ b') (j : Nat) (v : Value) : RdB b bad c lv r (w.setCell ⟨b', j, none⟩ v) := (Below.heap_setCell _ _ _ _ hne).trans h
theorem L3.other {b b' : Nat} {c : Int} {l : Bool} {t : B} {w : World} (h : L3 b c l t w) (hne : b ≠ b') (j : Nat) (v : Value) : L3 b c l t (w.setCell ⟨b', j, none⟩ v) := (Below.heap_setCell _ _ _ _ hne).trans h
theorem L3.grow {b : Nat} {c : Int} {l : Bool} {t : B} {w w' : World} {row : Option Nat} (h : L3 b c l t w) (hg : w.grownBy w' row) (hr : NoRow 67 w row) : L3 b c l t w' := (hg.block b h.lt (fun e' => hr b e'.symm _ h)).trans h
theorem wp_okE {op : Oper} {a : Act} {w w' : World} {v vx v' : Value} {K : Act → World → Prop} {Q : Exit → Act → World → Prop} (sx x : Operand) (t1 t2 ty : TypeId) (ho : op.op = .call { callee := .builtin .append, args := #[sx, x], argTypes := #[t1, t2] })
    (hr : (Builtin.append_ #[t1, t2] ty #[v, vx]).run Tryd.prog w = .ok v' w') (hs : a.eval sx = v) (hx : a.eval x = vx) (ht : op.type = ty) (h : K (a.put op.dst v') w') : op.wp Tryd.prog a w K Q := wp_ok sx x t1 t2 ho (by rw [hs, hx, ht]; exact hr) h
theorem need_ok (b : Bool) (h : b = true) (w : World) : Calls Tryd.prog 46 #[.bool b] w fun e w' => e = .returned (.tuple #[]) ∧ w = w' := by subst h; exact need_yes w
set_option maxRecDepth 100000 in
set_option maxHeartbeats 8000000 in
theorem add_any (D b : Nat) (c : Int) (ls : List B) (lv : Value) (r : B) (x : Int × Bool × B) (w : World) (h : RdB b false c lv r w) (hO : OwnS D lv ls w) (hb : b < D) (hD : D ≤ w.heap.size) (hll : ls.length ≤ 1000) :
    Calls Tryd.prog 33 #[pV b, lineV x] w (AdP D b c ls lv r x w) := by
  obtain ⟨xc, xl, xt⟩ := x
  have HLT := Lib.hid (fun g hg => (World.ownsRow.lt hO g hg))
  obtain ⟨la, lc, rfl⟩ := own_slice hO
  have K0 := (Kept.refl w).alloc (.cells #[iV xc, .bool xl, sV xt] 67)
  have L0 := L3.new w xc xl xt
  have R0 := h.kept K0
  have O0 := hO.kept K0
  have hz0 : (w.alloc (.cells #[iV xc, .bool xl, sV xt] 67)).heap.size = w.heap.size + 1 := by simp
  clear h hO
  go_enter Tryd.func33, Tryd.ntmps33
  go_upto_region 1 with (fail)
  generalize w.alloc (.cells #[iV xc, .bool xl, sV xt] 67) = W0 at *
  obtain ⟨n, hn⟩ : ∃ n, n = w.heap.size := ⟨_, rfl⟩
  have HN := Lib.hid hn
  rw [← hn] at L0 hz0 hD ⊢
  clear hn
  have hz1 := Lib.hid hz0
  clear hz0
  obtain ⟨c0, c1, c2, c3, c4, c5, c6⟩ := R0.cs
  have RR := Lib.hid R0
  have OO := Lib.hid O0
  have LL := Lib.hid L0
  have KK := Lib.hid K0
  obtain ⟨l0, l1, l2⟩ := L0.cs
  clear R0 O0 L0 K0
  by_cases h100 : ls.length < 100
  · have iq : (ls.length : Int) < 100 := by omega
    clear c0 c3 c4 c5 c6
    go_wp2_with fail
    refine (need_ok _ (by first | (simp; done) | (simp; omega)) _).mono ?_
    rintro e wy ⟨rfl, rfl⟩
    by_cases hz : ls = []
    · have hzb : ((ls.length : Int) == 0) = true := by rw [hz]; rfl
      have HZ := Lib.hid hz
      clear hz
      go_upto_region 3 with (fail)
      refine wp_region_held_drew (S := fun _ => True) (by kernel_rfl) trivial (fun hS0 => ?_)
      refine wpAnyH_take (i := 0) (oi := { dst := some 14, op := Go.Op.move (Go.Operand.tmp 4), type := 3, pos := "reader.go:59", after := #[], guard := none }) (v := ?vre0) rfl (by kernel_rfl) (by kernel_rfl) (by kernel_rfl) (fun _ _ _ h => h) (Or.inl ⟨by rfl, ?yre0⟩) (by assumption) ?rre0
      case yre0 => (intro wq hSw; (try dsimp only at hSw); go_simp; try with_reducible rfl)
      simp only [Act.put, List.setIfInBounds_toArray, List.set_cons_zero, List.set_cons_succ]
      refine wpAnyH_take (i := 1) (oi := { dst := some 15, op := Go.Op.binOp Go.BinOp.eql 3 (Go.Operand.tmp 14) (Go.Operand.const (Go.Value.int Go.IntKind.i64 0)) 3, type := 4, pos := "reader.go:59", after := #[{ on := 0, ground := Go.Ground.data }], guard := none }) (v := ?vre1) rfl (by kernel_rfl) (by kernel_rfl) (by kernel_rfl) (fun _ _ _ h => h) (Or.inl ⟨by rfl, ?yre1⟩) (by assumption) ?rre1
      case yre1 => (intro wq hSw; (try dsimp only at hSw); go_simp; try with_reducible rfl)
      simp only [Act.put, List.setIfInBounds_toArray, List.set_cons_zero, List.set_cons_succ]
      refine wpAnyH_take (i := 2) (oi := { dst := some 16, op := Go.Op.move (Go.Operand.tmp 15), type := 4, pos := "reader.go:59", after := #[{ on := 1, ground := Go.Ground.data }], guard := none }) (v := ?vre2) rfl (by kernel_rfl) (by kernel_rfl) (by kernel_rfl) (fun _ _ _ h => h) (Or.inl ⟨by rfl, ?yre2⟩) (by assumption) ?rre2
      case yre2 => (intro wq hSw; (try dsimp only at hSw); go_simp; try with_reducible rfl)
      simp only [Act.put, List.setIfInBounds_toArray, List.set_cons_zero, List.set_cons_succ]
      refine wpAnyH_take (i := 3) (oi := { dst := some 17, op := Go.Op.fieldAddr 67 (Go.Operand.tmp 3) 0, type := 0, pos := "reader.go:59", after := #[{ on := 2, ground := Go.Ground.guard }], guard := some (2, false) }) (v := undef) rfl (by kernel_rfl) (by kernel_rfl) (by kernel_rfl) (fun _ _ _ h => h) (Or.inr ⟨by rfl, rfl⟩) (by assumption) ?_
      simp only [Act.put, List.setIfInBounds_toArray, List.set_cons_zero, List.set_cons_succ]
      refine wpAnyH_take (i := 4) (oi := { dst := some 18, op := Go.Op.load 3 (Go.Operand.tmp 17), type := 3, pos := "reader.go:59", after := #[{ on := 3, ground := Go.Ground.data }, { on := 2, ground := Go.Ground.guard }], guard := some (2, false) }) (v := undef) rfl (by kernel_rfl) (by kernel_rfl) (by kernel_rfl) (fun _ _ _ h => h) (Or.inr ⟨by rfl, rfl⟩) (by assumption) ?_
      simp only [Act.put, List.setIfInBounds_toArray, List.set_cons_zero, List.set_cons_succ]
      refine wpAnyH_take (i := 5) (oi := { dst := some 19, op := Go.Op.move (Go.Operand.tmp 0), type := 38, pos := "reader.go:59", after := #[{ on := 2, ground := Go.Ground.guard }], guard := some (2, false) }) (v := undef) rfl (by kernel_rfl) (by kernel_rfl) (by kernel_rfl) (fun _ _ _ h => h) (Or.inr ⟨by rfl, rfl⟩) (by assumption) ?_
      simp only [Act.put, List.setIfInBounds_toArray, List.set_cons_zero, List.set_cons_succ]
      refine wpAnyH_take (i := 6) (oi := { dst := some 20, op := Go.Op.nilCheck (Go.Operand.tmp 19), type := 0, pos := "reader.go:59", after := #[{ on := 5, ground := Go.Ground.data }, { on := 2, ground := Go.Ground.guard }], guard := some (2, false) }) (v := undef) rfl (by kernel_rfl) (by kernel_rfl) (by kernel_rfl) (fun _ _ _ h => h) (Or.inr ⟨by rfl, rfl⟩) (by assumption) ?_
      simp only [Act.put, List.setIfInBounds_toArray, List.set_cons_zero, List.set_cons_succ]
      refine wpAnyH_take (i := 7) (oi := { dst := some 21, op := Go.Op.fieldAddr 59 (Go.Operand.tmp 20) 1, type := 0, pos := "reader.go:59", after := #[{ on := 6, ground := Go.Ground.data }, { on := 2, ground := Go.Ground.guard }], guard := some (2, false) }) (v := undef) rfl (by kernel_rfl) (by kernel_rfl) (by kernel_rfl) (fun _ _ _ h => h) (Or.inr ⟨by rfl, rfl⟩) (by assumption) ?_
      simp only [Act.put, List.setIfInBounds_toArray, List.set_cons_zero, List.set_cons_succ]
      refine wpAnyH_take (i := 8) (oi := { dst := some 22, op := Go.Op.fieldAddr 25 (Go.Operand.tmp 21) 0, type := 0, pos := "reader.go:59", after := #[{ on := 7, ground := Go.Ground.data }, { on := 2, ground := Go.Ground.guard }], guard := some (2, false) }) (v := undef) rfl (by kernel_rfl) (by kernel_rfl) (by kernel_rfl) (fun _ _ _ h => h) (Or.inr ⟨by rfl, rfl⟩) (by assumption) ?_
      simp only [Act.put, List.setIfInBounds_toArray, List.set_cons_zero, List.set_cons_succ]
      refine wpAnyH_take (i := 9) (oi := { dst := some 23, op := Go.Op.load 3 (Go.Operand.tmp 22), type := 3, pos := "reader.go:59", after := #[{ on := 8, ground := Go.Ground.data }, { on := 2, ground := Go.Ground.guard }], guard := some (2, false) }) (v := undef) rfl (by kernel_rfl) (by kernel_rfl) (by kernel_rfl) (fun _ _ _ h => h) (Or.inr ⟨by rfl, rfl⟩) (by assumption) ?_
      simp only [Act.put, List.setIfInBounds_toArray, List.set_cons_zero, List.set_cons_succ]
      refine wpAnyH_take (i := 10) (oi := { dst := some 24, op := Go.Op.binOp Go.BinOp.eql 3 (Go.Operand.tmp 18) (Go.Operand.tmp 23) 3, type := 4, pos := "reader.go:59", after := #[{ on := 4, ground := Go.Ground.data }, { on := 9, ground := Go.Ground.data }, { on := 2, ground := Go.Ground.guard }], guard := some (2, false) }) (v := undef) rfl (by kernel_rfl) (by kernel_rfl) (by kernel_rfl) (fun _ _ _ h => h) (Or.inr ⟨by rfl, rfl⟩) (by assumption) ?_
      simp only [Act.put, List.setIfInBounds_toArray, List.set_cons_zero, List.set_cons_succ]
      refine wpAnyH_take (i := 11) (oi := { dst := some 25, op := Go.Op.pick (Go.Operand.tmp 16) (Go.Operand.const (Go.Value.bool true)) (Go.Operand.tmp 24), type := 4, pos := "reader.go:59", after := #[{ on := 2, ground := Go.Ground.data }, { on := 10, ground := Go.Ground.data }], guard := none }) (v := ?vre11) rfl (by kernel_rfl) (by kernel_rfl) (by kernel_rfl) (fun _ _ _ h => h) (Or.inl ⟨by rfl, ?yre11⟩) (by assumption) ?rre11
      case yre11 => (intro wq hSw; (try dsimp only at hSw); go_simp; try with_reducible rfl)
      simp only [Act.put, List.setIfInBounds_toArray, List.set_cons_zero, List.set_cons_succ]
      refine wpAnyH_ready (rs := [12]) (by kernel_rfl) (by simp) (AllReadyH.cons (o := { dst := some 26, op := Go.Op.call { callee := Go.Callee.value (Go.Operand.func 46), args := #[Go.Operand.tmp 25], argTypes := #[4] }, type := 0, pos := "reader.go:59", after := #[{ on := 11, ground := Go.Ground.data }, { on := 2, ground := Go.Ground.chain }], guard := none }) rfl (fun K hK => ?_) AllReadyH.nil)
      go_simp
      refine (need_yes _).mono ?_
      rintro e wz ⟨rfl, rfl⟩
      refine Shut.out hK _ _ hS0 (fun hSb => ?_)
      clear hK K
      try simp only [Act.put, List.setIfInBounds_toArray, List.set_cons_zero, List.set_cons_succ]
      refine wpAnyH_done (by kernel_rfl) ?_ _
      clear hS0 hSb
      clear hzb
      have KD := Lib.hid (KK.out.drew)
      have RD := Lib.hid (RR.out.kept ((Kept.refl W0).drew))
      have OD := Lib.hid (OO.out.kept ((Kept.refl W0).drew))
      have LD := Lib.hid (LL.out.kept ((Kept.refl W0).drew))
      have hzd : W0.drew.heap.size = n + 1 := hz1.out
      clear RR OO LL KK l0 l1 l2 c1 c2
      generalize W0.drew = W1 at *
      have hzd' := Lib.hid hzd
      clear hzd
      have hnb : n ≠ b := by omega
      obtain ⟨c0, c1, c2, c3, c4, c5, c6⟩ := RD.out.cs
      obtain ⟨l0, l1, l2⟩ := LD.out.cs
      have fb := RD.out.frz
      clear c0 c2 c3 c4 c5 c6
      go_upto_region 5 with (fail)
      have R2 := Lib.hid (RD.out.setC xc)
      have e2 : Ex (Rw b (.slice la ls.length lc)) w (W1.setCell ⟨b, 1, none⟩ (iV xc)) := (Ex.of KD.out).set (Or.inl rfl) 1 (iV xc)
      have E2 := Lib.hid e2
      have O2 := Lib.hid (own_ex OD.out ((Ex.refl (fun k => k = b) W1).set rfl 1 (iV xc)) (fun g hg q => by
        have := HLT.out g hg
        omega))
      have L2 := Lib.hid (LD.out.other hnb 1 (iV xc))
      have hz2 := Lib.hid (show (W1.setCell ⟨b, 1, none⟩ (iV xc)).heap.size = n + 1 by simp [World.setCell]; exact hzd'.out)
      clear RD OD LD KD e2 l0 l1 l2 c1 fb
      generalize W1.setCell ⟨b, 1, none⟩ (iV xc) = W2 at *
      have R3 := Lib.hid (R2.out.kept ((Kept.refl W2).drew))
      have E3 := Lib.hid (E2.out.drew)
      have O3 := Lib.hid (OwnS.kept O2.out ((Kept.refl W2).drew))
      have L3' := Lib.hid (L2.out.kept ((Kept.refl W2).drew))
      have hz3 := Lib.hid (show W2.drew.heap.size = n + 1 from hz2.out)
      have hS := L2.out.cs.2.2
      clear R2 E2 O2 L2 hz2
      refine wp_region_held_drew (S := fun y => y.cell? ⟨n, 2, none⟩ = some (sV xt)) (by kernel_rfl) hS (fun hS0 => ?_)
      clear hS
      refine wpAnyH_take (i := 0) (oi := { dst := some 33, op := Go.Op.move (Go.Operand.tmp 0), type := 38, pos := "reader.go:61", after := #[], guard := none }) (v := ?vet0) rfl (by kernel_rfl) (by kernel_rfl) (by kernel_rfl) (fun _ _ _ h => h) (Or.inl ⟨by rfl, ?yet0⟩) (by assumption) ?ret0
      case yet0 => (intro wq hSw; (try dsimp only at hSw); go_simp; try with_reducible rfl)
      simp only [Act.put, List.setIfInBounds_toArray, List.set_cons_zero, List.set_cons_succ]
      refine wpAnyH_take (i := 1) (oi := { dst := some 34, op := Go.Op.move (Go.Operand.tmp 0), type := 38, pos := "reader.go:61", after := #[], guard := none }) (v := ?vet1) rfl (by kernel_rfl) (by kernel_rfl) (by kernel_rfl) (fun _ _ _ h => h) (Or.inl ⟨by rfl, ?yet1⟩) (by assumption) ?ret1
      case yet1 => (intro wq hSw; (try dsimp only at hSw); go_simp; try with_reducible rfl)
      simp only [Act.put, List.setIfInBounds_toArray, List.set_cons_zero, List.set_cons_succ]
      refine wpAnyH_take (i := 2) (oi := { dst := some 35, op := Go.Op.nilCheck (Go.Operand.tmp 34), type := 0, pos := "reader.go:61", after := #[{ on := 1, ground := Go.Ground.data }], guard := none }) (v := ?vet2) rfl (by kernel_rfl) (by kernel_rfl) (by kernel_rfl) (fun _ _ _ h => h) (Or.inl ⟨by rfl, ?yet2⟩) (by assumption) ?ret2
      case yet2 => (intro wq hSw; (try dsimp only at hSw); go_simp; try with_reducible rfl)
      simp only [Act.put, List.setIfInBounds_toArray, List.set_cons_zero, List.set_cons_succ]
      refine wpAnyH_take (i := 3) (oi := { dst := some 36, op := Go.Op.fieldAddr 59 (Go.Operand.tmp 35) 1, type := 0, pos := "reader.go:61", after := #[{ on := 2, ground := Go.Ground.data }], guard := none }) (v := ?vet3) rfl (by kernel_rfl) (by kernel_rfl) (by kernel_rfl) (fun _ _ _ h => h) (Or.inl ⟨by rfl, ?yet3⟩) (by assumption) ?ret3
      case yet3 => (intro wq hSw; (try dsimp only at hSw); go_simp; try with_reducible rfl)
      simp only [Act.put, List.setIfInBounds_toArray, List.set_cons_zero, List.set_cons_succ]
      refine wpAnyH_take (i := 4) (oi := { dst := some 37, op := Go.Op.fieldAddr 25 (Go.Operand.tmp 36) 1, type := 0, pos := "reader.go:61", after := #[{ on := 3, ground := Go.Ground.data }], guard := none }) (v := ?vet4) rfl (by kernel_rfl) (by kernel_rfl) (by kernel_rfl) (fun _ _ _ h => h) (Or.inl ⟨by rfl, ?yet4⟩) (by assumption) ?ret4
      case yet4 => (intro wq hSw; (try dsimp only at hSw); go_simp; try with_reducible rfl)
      simp only [Act.put, List.setIfInBounds_toArray, List.set_cons_zero, List.set_cons_succ]
      refine wpAnyH_take (i := 6) (oi := { dst := some 39, op := Go.Op.fieldAddr 67 (Go.Operand.tmp 3) 2, type := 0, pos := "reader.go:61", after := #[], guard := none }) (v := ?vet6) rfl (by kernel_rfl) (by kernel_rfl) (by kernel_rfl) (fun _ _ _ h => h) (Or.inl ⟨by rfl, ?yet6⟩) (by assumption) ?ret6
      case yet6 => (intro wq hSw; (try dsimp only at hSw); go_simp; try with_reducible rfl)
      simp only [Act.put, List.setIfInBounds_toArray, List.set_cons_zero, List.set_cons_succ]
      refine wpAnyH_take (i := 7) (oi := { dst := some 40, op := Go.Op.load 9 (Go.Operand.tmp 39), type := 9, pos := "reader.go:61", after := #[{ on := 6, ground := Go.Ground.data }], guard := none }) (v := ?vet7) rfl (by kernel_rfl) (by kernel_rfl) (by kernel_rfl) (fun _ _ _ h => h) (Or.inl ⟨by rfl, ?yet7⟩) (by assumption) ?ret7
      case yet7 => (intro wq hSw; (try dsimp only at hSw); go_simp; try with_reducible rfl)
      simp only [Act.put, List.setIfInBounds_toArray, List.set_cons_zero, List.set_cons_succ]
      generalize W2.drew = W3 at *
      refine wpAnyH_ready (rs := [5, 8]) (by kernel_rfl) (by simp) (AllReadyH.cons (o := { dst := some 38, op := Go.Op.load 22 (Go.Operand.tmp 37), type := 22, pos := "reader.go:61", after := #[{ on := 4, ground := Go.Ground.data }], guard := none }) rfl (fun K hK => ?_) (AllReadyH.cons (o := { dst := some 41, op := Go.Op.buildSlice 22 1 #[(0, Go.Operand.tmp 40)], type := 22, pos := "reader.go:61", after := #[{ on := 7, ground := Go.Ground.data }], guard := none }) rfl (fun K hK => ?_) AllReadyH.nil))
      · have c2 := R3.out.cs.2.2.1
        go_simp
        refine Shut.out hK _ _ L3'.out.cs.2.2 (fun hSb => ?_)
        clear hK K
        try simp only [Act.put, List.setIfInBounds_toArray, List.set_cons_zero, List.set_cons_succ]
        clear c2
        refine wpAnyH_ready (rs := [8]) (by kernel_rfl) (by simp) (AllReadyH.cons (o := { dst := some 41, op := Go.Op.buildSlice 22 1 #[(0, Go.Operand.tmp 40)], type := 22, pos := "reader.go:61", after := #[{ on := 7, ground := Go.Ground.data }], guard := none }) rfl (fun K hK => ?_) AllReadyH.nil)
        go_simp
        have kx := (Kept.refl W3).alloc (.cells #[sV xt] 9)
        have R4 := Lib.hid (R3.out.kept kx)
        have E4 := Lib.hid (E3.out.trans (Ex.of kx))
        have O4 := Lib.hid (OwnS.kept O3.out kx)
        have L4 := Lib.hid (L3'.out.kept kx)
        have hz4 := Lib.hid (show (W3.alloc (.cells #[sV xt] 9)).heap.size = n + 2 by simp; exact hz3.out)
        have Q4 := Lib.hid (show (W3.alloc (.cells #[sV xt] 9)).cell? ⟨W3.heap.size, 0, none⟩ = some (sV xt) from (Kept.refl (W3.alloc (.cells #[sV xt] 9))).new 0 rfl)
        clear kx
        refine Shut.out hK _ _ L4.out.cs.2.2 (fun hSb => ?_)
        clear hK K
        try simp only [Act.put, List.setIfInBounds_toArray, List.set_cons_zero, List.set_cons_succ]
        clear R3 E3 O3 L3'
        generalize W3.alloc (.cells #[sV xt] 9) = W4 at *
        refine wpAnyH_ready (rs := [9]) (by kernel_rfl) (by simp) (AllReadyH.cons (o := { dst := some 42, op := Go.Op.call { callee := Go.Callee.builtin Go.Builtin.append, args := #[Go.Operand.tmp 38, Go.Operand.tmp 41], argTypes := #[22, 22] }, type := 22, pos := "reader.go:61", after := #[{ on := 5, ground := Go.Ground.data }, { on := 8, ground := Go.Ground.data }], guard := none }) rfl (fun K hK => ?_) AllReadyH.nil)
        rw [if_pos (by rfl)]
        obtain ⟨v', w5, hr, hO5, hg5, hown⟩ := run_pushS W4 D 22 (.slice la ls.length lc) ls xt W3.heap.size O4.out Q4.out (by omega) (by rw [hz4.out]; omega)
        refine wp_okE (.tmp 38) (.tmp 41) 22 22 22 rfl hr (by rfl) (by rfl) rfl ?_
        have R5' := Lib.hid (R4.out.grow hg5 (NoRow.own O4.out (by decide)))
        have L5 := Lib.hid (L4.out.grow hg5 (NoRow.own O4.out (by decide)))
        have E5 := Lib.hid (E4.out.grown hg5 (fun k hk => Or.inl (Or.inr hk)))
        have O5 := Lib.hid hO5
        obtain ⟨va, vc, hv5⟩ := own_slice hO5
        rw [show (ls ++ [xt]).length = ls.length + 1 by simp] at hv5
        have HLT5 := Lib.hid (fun g hg => (World.ownsRow.lt hO5 g hg).1)
        have HOW := Lib.hid hown
        clear hO5 hg5 hr hown
        subst hv5
        refine Shut.out hK _ _ L5.out.cs.2.2 (fun hSb => ?_)
        clear hK K
        try simp only [Act.put, List.setIfInBounds_toArray, List.set_cons_zero, List.set_cons_succ]
        refine wpAnyH_take (i := 10) (oi := { dst := some 43, op := Go.Op.nilCheck (Go.Operand.tmp 33), type := 0, pos := "reader.go:61", after := #[{ on := 0, ground := Go.Ground.data }, { on := 0, ground := Go.Ground.phase }, { on := 1, ground := Go.Ground.phase }, { on := 2, ground := Go.Ground.phase }, { on := 3, ground := Go.Ground.phase }, { on := 4, ground := Go.Ground.phase }, { on := 5, ground := Go.Ground.phase }, { on := 6, ground := Go.Ground.phase }, { on := 7, ground := Go.Ground.phase }, { on := 8, ground := Go.Ground.phase }, { on := 9, ground := Go.Ground.phase }], guard := none }) (v := ?vea10) rfl (by kernel_rfl) (by kernel_rfl) (by kernel_rfl) (fun _ _ _ h => h) (Or.inl ⟨by rfl, ?yea10⟩) (by assumption) ?rea10
        case yea10 => (intro wq hSw; (try dsimp only at hSw); go_simp; try with_reducible rfl)
        simp only [Act.put, List.setIfInBounds_toArray, List.set_cons_zero, List.set_cons_succ]
        refine wpAnyH_take (i := 11) (oi := { dst := some 44, op := Go.Op.fieldAddr 59 (Go.Operand.tmp 43) 1, type := 0, pos := "reader.go:61", after := #[{ on := 10, ground := Go.Ground.data }, { on := 0, ground := Go.Ground.phase }, { on := 1, ground := Go.Ground.phase }, { on := 2, ground := Go.Ground.phase }, { on := 3, ground := Go.Ground.phase }, { on := 4, ground := Go.Ground.phase }, { on := 5, ground := Go.Ground.phase }, { on := 6, ground := Go.Ground.phase }, { on := 7, ground := Go.Ground.phase }, { on := 8, ground := Go.Ground.phase }, { on := 9, ground := Go.Ground.phase }], guard := none }) (v := ?vea11) rfl (by kernel_rfl) (by kernel_rfl) (by kernel_rfl) (fun _ _ _ h => h) (Or.inl ⟨by rfl, ?yea11⟩) (by assumption) ?rea11
        case yea11 => (intro wq hSw; (try dsimp only at hSw); go_simp; try with_reducible rfl)
        simp only [Act.put, List.setIfInBounds_toArray, List.set_cons_zero, List.set_cons_succ]
        refine wpAnyH_take (i := 12) (oi := { dst := some 45, op := Go.Op.fieldAddr 25 (Go.Operand.tmp 44) 1, type := 0, pos := "reader.go:61", after := #[{ on := 11, ground := Go.Ground.data }, { on := 0, ground := Go.Ground.phase }, { on := 1, ground := Go.Ground.phase }, { on := 2, ground := Go.Ground.phase }, { on := 3, ground := Go.Ground.phase }, { on := 4, ground := Go.Ground.phase }, { on := 5, ground := Go.Ground.phase }, { on := 6, ground := Go.Ground.phase }, { on := 7, ground := Go.Ground.phase }, { on := 8, ground := Go.Ground.phase }, { on := 9, ground := Go.Ground.phase }], guard := none }) (v := ?vea12) rfl (by kernel_rfl) (by kernel_rfl) (by kernel_rfl) (fun _ _ _ h => h) (Or.inl ⟨by rfl, ?yea12⟩) (by assumption) ?rea12
        case yea12 => (intro wq hSw; (try dsimp only at hSw); go_simp; try with_reducible rfl)
        simp only [Act.put, List.setIfInBounds_toArray, List.set_cons_zero, List.set_cons_succ]
        have d2 := R5'.out.cs.2.2.1
        have f2 := R5'.out.frz 2
        refine wpAnyH_ready (rs := [13]) (by kernel_rfl) (by simp) (AllReadyH.cons (o := { dst := none, op := Go.Op.store 22 (Go.Operand.tmp 45) (Go.Operand.tmp 42), type := 0, pos := "reader.go:61", after := #[{ on := 12, ground := Go.Ground.data }, { on := 9, ground := Go.Ground.data }, { on := 9, ground := Go.Ground.chain }, { on := 0, ground := Go.Ground.phase }, { on := 1, ground := Go.Ground.phase }, { on := 2, ground := Go.Ground.phase }, { on := 3, ground := Go.Ground.phase }, { on := 4, ground := Go.Ground.phase }, { on := 5, ground := Go.Ground.phase }, { on := 6, ground := Go.Ground.phase }, { on := 7, ground := Go.Ground.phase }, { on := 8, ground := Go.Ground.phase }, { on := 9, ground := Go.Ground.phase }], guard := none }) rfl (fun K hK => ?_) AllReadyH.nil)
        go_simp
        have R6 := Lib.hid (R5'.out.setL (.slice va (ls.length + 1) vc))
        have L6 := Lib.hid (L5.out.other hnb 2 (.slice va (ls.length + 1) vc))
        have E6 := Lib.hid (E5.out.set (Or.inl rfl) 2 (.slice va (ls.length + 1) vc))
        have O6 := Lib.hid (own_ex O5.out ((Ex.refl (fun k => k = b) w5).set rfl 2 (.slice va (ls.length + 1) vc)) (fun g hg q => by
          have := HLT5.out g hg
          omega))
        refine Shut.out hK _ _ L6.out.cs.2.2 (fun hSb => ?_)
        clear hK K
        try simp only [Act.put, List.setIfInBounds_toArray, List.set_cons_zero, List.set_cons_succ]
        refine wpAnyH_done (by kernel_rfl) ?_ _
        clear d2 f2 hS0
        go_end0
        refine (show AdP D b c _ _ r (xc, xl, xt) w _ _ from ?_)
        unfold AdP
        rw [if_pos ⟨h100, Or.inl HZ.out⟩]
        refine ⟨rfl, E6.out, _, R6.out, O6.out, fun g hg => ?_⟩
        rcases HOW.out with q | q
        · exact Or.inl (q ▸ hg)
        · refine Or.inr ?_
          have q2 : some W4.heap.size = some g := q.symm.trans hg
          injection q2 with q2
          have := HN.out
          have := hz4.out
          omega
      · go_simp
        have kx := (Kept.refl W3).alloc (.cells #[sV xt] 9)
        have R4 := Lib.hid (R3.out.kept kx)
        have E4 := Lib.hid (E3.out.trans (Ex.of kx))
        have O4 := Lib.hid (OwnS.kept O3.out kx)
        have L4 := Lib.hid (L3'.out.kept kx)
        have hz4 := Lib.hid (show (W3.alloc (.cells #[sV xt] 9)).heap.size = n + 2 by simp; exact hz3.out)
        have Q4 := Lib.hid (show (W3.alloc (.cells #[sV xt] 9)).cell? ⟨W3.heap.size, 0, none⟩ = some (sV xt) from (Kept.refl (W3.alloc (.cells #[sV xt] 9))).new 0 rfl)
        clear kx
        refine Shut.out hK _ _ L4.out.cs.2.2 (fun hSb => ?_)
        clear hK K
        try simp only [Act.put, List.setIfInBounds_toArray, List.set_cons_zero, List.set_cons_succ]
        clear R3 E3 O3 L3'
        generalize W3.alloc (.cells #[sV xt] 9) = W4 at *
        have c2 := R4.out.cs.2.2.1
        refine wpAnyH_ready (rs := [5]) (by kernel_rfl) (by simp) (AllReadyH.cons (o := { dst := some 38, op := Go.Op.load 22 (Go.Operand.tmp 37), type := 22, pos := "reader.go:61", after := #[{ on := 4, ground := Go.Ground.data }], guard := none }) rfl (fun K hK => ?_) AllReadyH.nil)
        go_simp
        refine Shut.out hK _ _ L4.out.cs.2.2 (fun hSb => ?_)
        clear hK K
        try simp only [Act.put, List.setIfInBounds_toArray, List.set_cons_zero, List.set_cons_succ]
        clear c2
        refine wpAnyH_ready (rs := [9]) (by kernel_rfl) (by simp) (AllReadyH.cons (o := { dst := some 42, op := Go.Op.call { callee := Go.Callee.builtin Go.Builtin.append, args := #[Go.Operand.tmp 38, Go.Operand.tmp 41], argTypes := #[22, 22] }, type := 22, pos := "reader.go:61", after := #[{ on := 5, ground := Go.Ground.data }, { on := 8, ground := Go.Ground.data }], guard := none }) rfl (fun K hK => ?_) AllReadyH.nil)
        rw [if_pos (by rfl)]
        obtain ⟨v', w5, hr, hO5, hg5, hown⟩ := run_pushS W4 D 22 (.slice la ls.length lc) ls xt W3.heap.size O4.out Q4.out (by omega) (by rw [hz4.out]; omega)
        refine wp_okE (.tmp 38) (.tmp 41) 22 22 22 rfl hr (by rfl) (by rfl) rfl ?_
        have R5' := Lib.hid (R4.out.grow hg5 (NoRow.own O4.out (by decide)))
        have L5 := Lib.hid (L4.out.grow hg5 (NoRow.own O4.out (by decide)))
        have E5 := Lib.hid (E4.out.grown hg5 (fun k hk => Or.inl (Or.inr hk)))
        have O5 := Lib.hid hO5
        obtain ⟨va, vc, hv5⟩ := own_slice hO5
        rw [show (ls ++ [xt]).length = ls.length + 1 by simp] at hv5
        have HLT5 := Lib.hid (fun g hg => (World.ownsRow.lt hO5 g hg).1)
        have HOW := Lib.hid hown
        clear hO5 hg5 hr hown
        subst hv5
        refine Shut.out hK _ _ L5.out.cs.2.2 (fun hSb => ?_)
        clear hK K
        try simp only [Act.put, List.setIfInBounds_toArray, List.set_cons_zero, List.set_cons_succ]
        refine wpAnyH_take (i := 10) (oi := { dst := some 43, op := Go.Op.nilCheck (Go.Operand.tmp 33), type := 0, pos := "reader.go:61", after := #[{ on := 0, ground := Go.Ground.data }, { on := 0, ground := Go.Ground.phase }, { on := 1, ground := Go.Ground.phase }, { on := 2, ground := Go.Ground.phase }, { on := 3, ground := Go.Ground.phase }, { on := 4, ground := Go.Ground.phase }, { on := 5, ground := Go.Ground.phase }, { on := 6, ground := Go.Ground.phase }, { on := 7, ground := Go.Ground.phase }, { on := 8, ground := Go.Ground.phase }, { on := 9, ground := Go.Ground.phase }], guard := none }) (v := ?veb10) rfl (by kernel_rfl) (by kernel_rfl) (by kernel_rfl) (fun _ _ _ h => h) (Or.inl ⟨by rfl, ?yeb10⟩) (by assumption) ?reb10
        case yeb10 => (intro wq hSw; (try dsimp only at hSw); go_simp; try with_reducible rfl)
        simp only [Act.put, List.setIfInBounds_toArray, List.set_cons_zero, List.set_cons_succ]
        refine wpAnyH_take (i := 11) (oi := { dst := some 44, op := Go.Op.fieldAddr 59 (Go.Operand.tmp 43) 1, type := 0, pos := "reader.go:61", after := #[{ on := 10, ground := Go.Ground.data }, { on := 0, ground := Go.Ground.phase }, { on := 1, ground := Go.Ground.phase }, { on := 2, ground := Go.Ground.phase }, { on := 3, ground := Go.Ground.phase }, { on := 4, ground := Go.Ground.phase }, { on := 5, ground := Go.Ground.phase }, { on := 6, ground := Go.Ground.phase }, { on := 7, ground := Go.Ground.phase }, { on := 8, ground := Go.Ground.phase }, { on := 9, ground := Go.Ground.phase }], guard := none }) (v := ?veb11) rfl (by kernel_rfl) (by kernel_rfl) (by kernel_rfl) (fun _ _ _ h => h) (Or.inl ⟨by rfl, ?yeb11⟩) (by assumption) ?reb11
        case yeb11 => (intro wq hSw; (try dsimp only at hSw); go_simp; try with_reducible rfl)
        simp only [Act.put, List.setIfInBounds_toArray, List.set_cons_zero, List.set_cons_succ]
        refine wpAnyH_take (i := 12) (oi := { dst := some 45, op := Go.Op.fieldAddr 25 (Go.Operand.tmp 44) 1, type := 0, pos := "reader.go:61", after := #[{ on := 11, ground := Go.Ground.data }, { on := 0, ground := Go.Ground.phase }, { on := 1, ground := Go.Ground.phase }, { on := 2, ground := Go.Ground.phase }, { on := 3, ground := Go.Ground.phase }, { on := 4, ground := Go.Ground.phase }, { on := 5, ground := Go.Ground.phase }, { on := 6, ground := Go.Ground.phase }, { on := 7, ground := Go.Ground.phase }, { on := 8, ground := Go.Ground.phase }, { on := 9, ground := Go.Ground.phase }], guard := none }) (v := ?veb12) rfl (by kernel_rfl) (by kernel_rfl) (by kernel_rfl) (fun _ _ _ h => h) (Or.inl ⟨by rfl, ?yeb12⟩) (by assumption) ?reb12
        case yeb12 => (intro wq hSw; (try dsimp only at hSw); go_simp; try with_reducible rfl)
        simp only [Act.put, List.setIfInBounds_toArray, List.set_cons_zero, List.set_cons_succ]
        have d2 := R5'.out.cs.2.2.1
        have f2 := R5'.out.frz 2
        refine wpAnyH_ready (rs := [13]) (by kernel_rfl) (by simp) (AllReadyH.cons (o := { dst := none, op := Go.Op.store 22 (Go.Operand.tmp 45) (Go.Operand.tmp 42), type := 0, pos := "reader.go:61", after := #[{ on := 12, ground := Go.Ground.data }, { on := 9, ground := Go.Ground.data }, { on := 9, ground := Go.Ground.chain }, { on := 0, ground := Go.Ground.phase }, { on := 1, ground := Go.Ground.phase }, { on := 2, ground := Go.Ground.phase }, { on := 3, ground := Go.Ground.phase }, { on := 4, ground := Go.Ground.phase }, { on := 5, ground := Go.Ground.phase }, { on := 6, ground := Go.Ground.phase }, { on := 7, ground := Go.Ground.phase }, { on := 8, ground := Go.Ground.phase }, { on := 9, ground := Go.Ground.phase }], guard := none }) rfl (fun K hK => ?_) AllReadyH.nil)
        go_simp
        have R6 := Lib.hid (R5'.out.setL (.slice va (ls.length + 1) vc))
        have L6 := Lib.hid (L5.out.other hnb 2 (.slice va (ls.length + 1) vc))
        have E6 := Lib.hid (E5.out.set (Or.inl rfl) 2 (.slice va (ls.length + 1) vc))
        have O6 := Lib.hid (own_ex O5.out ((Ex.refl (fun k => k = b) w5).set rfl 2 (.slice va (ls.length + 1) vc)) (fun g hg q => by
          have := HLT5.out g hg
          omega))
        refine Shut.out hK _ _ L6.out.cs.2.2 (fun hSb => ?_)
        clear hK K
        try simp only [Act.put, List.setIfInBounds_toArray, List.set_cons_zero, List.set_cons_succ]
        refine wpAnyH_done (by kernel_rfl) ?_ _
        clear d2 f2 hS0
        go_end0
        refine (show AdP D b c _ _ r (xc, xl, xt) w _ _ from ?_)
        unfold AdP
        rw [if_pos ⟨h100, Or.inl HZ.out⟩]
        refine ⟨rfl, E6.out, _, R6.out, O6.out, fun g hg => ?_⟩
        rcases HOW.out with q | q
        · exact Or.inl (q ▸ hg)
        · refine Or.inr ?_
          have q2 : some W4.heap.size = some g := q.symm.trans hg
          injection q2 with q2
          have := HN.out
          have := hz4.out
          omega
    · have hzb : ((ls.length : Int) == 0) = false := by
        rw [beq_eq_false_iff_ne]
        have := List.length_pos_iff.2 hz
        omega
      by_cases hc : xc = c
      · have hcb : (xc == c) = true := by simp [hc]
        have HC := Lib.hid hc
        clear hc hz
        go_upto_region 3 with (fail)
        refine wp_region_held_drew (S := fun y => y.cell? ⟨n, 0, none⟩ = some (iV xc) ∧ y.cell? ⟨b, 1, none⟩ = some (iV c)) (by kernel_rfl) ⟨l0, c1⟩ (fun hS0 => ?_)
        refine wpAnyH_take (i := 0) (oi := { dst := some 14, op := Go.Op.move (Go.Operand.tmp 4), type := 3, pos := "reader.go:59", after := #[], guard := none }) (v := ?vrs0) rfl (by kernel_rfl) (by kernel_rfl) (by kernel_rfl) (fun _ _ _ h => h) (Or.inl ⟨by rfl, ?yrs0⟩) (by assumption) ?rrs0
        case yrs0 => (intro wq hSw; (try dsimp only at hSw); go_simp; try with_reducible rfl)
        simp only [Act.put, List.setIfInBounds_toArray, List.set_cons_zero, List.set_cons_succ]
        refine wpAnyH_take (i := 1) (oi := { dst := some 15, op := Go.Op.binOp Go.BinOp.eql 3 (Go.Operand.tmp 14) (Go.Operand.const (Go.Value.int Go.IntKind.i64 0)) 3, type := 4, pos := "reader.go:59", after := #[{ on := 0, ground := Go.Ground.data }], guard := none }) (v := ?vrs1) rfl (by kernel_rfl) (by kernel_rfl) (by kernel_rfl) (fun _ _ _ h => h) (Or.inl ⟨by rfl, ?yrs1⟩) (by assumption) ?rrs1
        case yrs1 => (intro wq hSw; (try dsimp only at hSw); go_simp; try with_reducible rfl)
        simp only [Act.put, List.setIfInBounds_toArray, List.set_cons_zero, List.set_cons_succ]
        refine wpAnyH_take (i := 2) (oi := { dst := some 16, op := Go.Op.move (Go.Operand.tmp 15), type := 4, pos := "reader.go:59", after := #[{ on := 1, ground := Go.Ground.data }], guard := none }) (v := ?vrs2) rfl (by kernel_rfl) (by kernel_rfl) (by kernel_rfl) (fun _ _ _ h => h) (Or.inl ⟨by rfl, ?yrs2⟩) (by assumption) ?rrs2
        case yrs2 => (intro wq hSw; (try dsimp only at hSw); go_simp; try with_reducible rfl)
        simp only [Act.put, List.setIfInBounds_toArray, List.set_cons_zero, List.set_cons_succ]
        refine wpAnyH_take (i := 3) (oi := { dst := some 17, op := Go.Op.fieldAddr 67 (Go.Operand.tmp 3) 0, type := 0, pos := "reader.go:59", after := #[{ on := 2, ground := Go.Ground.guard }], guard := some (2, false) }) (v := ?vrs3) rfl (by kernel_rfl) (by kernel_rfl) (by kernel_rfl) (fun _ _ _ h => h) (Or.inl ⟨by rfl, ?yrs3⟩) (by assumption) ?rrs3
        case yrs3 => (intro wq hSw; (try dsimp only at hSw); go_simp; try with_reducible rfl)
        simp only [Act.put, List.setIfInBounds_toArray, List.set_cons_zero, List.set_cons_succ]
        refine wpAnyH_take (i := 4) (oi := { dst := some 18, op := Go.Op.load 3 (Go.Operand.tmp 17), type := 3, pos := "reader.go:59", after := #[{ on := 3, ground := Go.Ground.data }, { on := 2, ground := Go.Ground.guard }], guard := some (2, false) }) (v := ?vrs4) rfl (by kernel_rfl) (by kernel_rfl) (by kernel_rfl) (fun _ _ _ h => h) (Or.inl ⟨by rfl, ?yrs4⟩) (by assumption) ?rrs4
        case yrs4 => (intro wq hSw; (try dsimp only at hSw); go_simp; try with_reducible rfl)
        simp only [Act.put, List.setIfInBounds_toArray, List.set_cons_zero, List.set_cons_succ]
        refine wpAnyH_take (i := 5) (oi := { dst := some 19, op := Go.Op.move (Go.Operand.tmp 0), type := 38, pos := "reader.go:59", after := #[{ on := 2, ground := Go.Ground.guard }], guard := some (2, false) }) (v := ?vrs5) rfl (by kernel_rfl) (by kernel_rfl) (by kernel_rfl) (fun _ _ _ h => h) (Or.inl ⟨by rfl, ?yrs5⟩) (by assumption) ?rrs5
        case yrs5 => (intro wq hSw; (try dsimp only at hSw); go_simp; try with_reducible rfl)
        simp only [Act.put, List.setIfInBounds_toArray, List.set_cons_zero, List.set_cons_succ]
        refine wpAnyH_take (i := 6) (oi := { dst := some 20, op := Go.Op.nilCheck (Go.Operand.tmp 19), type := 0, pos := "reader.go:59", after := #[{ on := 5, ground := Go.Ground.data }, { on := 2, ground := Go.Ground.guard }], guard := some (2, false) }) (v := ?vrs6) rfl (by kernel_rfl) (by kernel_rfl) (by kernel_rfl) (fun _ _ _ h => h) (Or.inl ⟨by rfl, ?yrs6⟩) (by assumption) ?rrs6
        case yrs6 => (intro wq hSw; (try dsimp only at hSw); go_simp; try with_reducible rfl)
        simp only [Act.put, List.setIfInBounds_toArray, List.set_cons_zero, List.set_cons_succ]
        refine wpAnyH_take (i := 7) (oi := { dst := some 21, op := Go.Op.fieldAddr 59 (Go.Operand.tmp 20) 1, type := 0, pos := "reader.go:59", after := #[{ on := 6, ground := Go.Ground.data }, { on := 2, ground := Go.Ground.guard }], guard := some (2, false) }) (v := ?vrs7) rfl (by kernel_rfl) (by kernel_rfl) (by kernel_rfl) (fun _ _ _ h => h) (Or.inl ⟨by rfl, ?yrs7⟩) (by assumption) ?rrs7
        case yrs7 => (intro wq hSw; (try dsimp only at hSw); go_simp; try with_reducible rfl)
        simp only [Act.put, List.setIfInBounds_toArray, List.set_cons_zero, List.set_cons_succ]
        refine wpAnyH_take (i := 8) (oi := { dst := some 22, op := Go.Op.fieldAddr 25 (Go.Operand.tmp 21) 0, type := 0, pos := "reader.go:59", after := #[{ on := 7, ground := Go.Ground.data }, { on := 2, ground := Go.Ground.guard }], guard := some (2, false) }) (v := ?vrs8) rfl (by kernel_rfl) (by kernel_rfl) (by kernel_rfl) (fun _ _ _ h => h) (Or.inl ⟨by rfl, ?yrs8⟩) (by assumption) ?rrs8
        case yrs8 => (intro wq hSw; (try dsimp only at hSw); go_simp; try with_reducible rfl)
        simp only [Act.put, List.setIfInBounds_toArray, List.set_cons_zero, List.set_cons_succ]
        refine wpAnyH_take (i := 9) (oi := { dst := some 23, op := Go.Op.load 3 (Go.Operand.tmp 22), type := 3, pos := "reader.go:59", after := #[{ on := 8, ground := Go.Ground.data }, { on := 2, ground := Go.Ground.guard }], guard := some (2, false) }) (v := ?vrs9) rfl (by kernel_rfl) (by kernel_rfl) (by kernel_rfl) (fun _ _ _ h => h) (Or.inl ⟨by rfl, ?yrs9⟩) (by assumption) ?rrs9
        case yrs9 => (intro wq hSw; (try dsimp only at hSw); go_simp; try with_reducible rfl)
        simp only [Act.put, List.setIfInBounds_toArray, List.set_cons_zero, List.set_cons_succ]
        refine wpAnyH_take (i := 10) (oi := { dst := some 24, op := Go.Op.binOp Go.BinOp.eql 3 (Go.Operand.tmp 18) (Go.Operand.tmp 23) 3, type := 4, pos := "reader.go:59", after := #[{ on := 4, ground := Go.Ground.data }, { on := 9, ground := Go.Ground.data }, { on := 2, ground := Go.Ground.guard }], guard := some (2, false) }) (v := ?vrs10) rfl (by kernel_rfl) (by kernel_rfl) (by kernel_rfl) (fun _ _ _ h => h) (Or.inl ⟨by rfl, ?yrs10⟩) (by assumption) ?rrs10
        case yrs10 => (intro wq hSw; (try dsimp only at hSw); go_simp; try with_reducible rfl)
        simp only [Act.put, List.setIfInBounds_toArray, List.set_cons_zero, List.set_cons_succ]
        refine wpAnyH_take (i := 11) (oi := { dst := some 25, op := Go.Op.pick (Go.Operand.tmp 16) (Go.Operand.const (Go.Value.bool true)) (Go.Operand.tmp 24), type := 4, pos := "reader.go:59", after := #[{ on := 2, ground := Go.Ground.data }, { on := 10, ground := Go.Ground.data }], guard := none }) (v := ?vrs11) rfl (by kernel_rfl) (by kernel_rfl) (by kernel_rfl) (fun _ _ _ h => h) (Or.inl ⟨by rfl, ?yrs11⟩) (by assumption) ?rrs11
        case yrs11 => (intro wq hSw; (try dsimp only at hSw); go_simp; try with_reducible rfl)
        simp only [Act.put, List.setIfInBounds_toArray, List.set_cons_zero, List.set_cons_succ]
        refine wpAnyH_ready (rs := [12]) (by kernel_rfl) (by simp) (AllReadyH.cons (o := { dst := some 26, op := Go.Op.call { callee := Go.Callee.value (Go.Operand.func 46), args := #[Go.Operand.tmp 25], argTypes := #[4] }, type := 0, pos := "reader.go:59", after := #[{ on := 11, ground := Go.Ground.data }, { on := 2, ground := Go.Ground.chain }], guard := none }) rfl (fun K hK => ?_) AllReadyH.nil)
        go_simp
        refine (need_yes _).mono ?_
        rintro e wz ⟨rfl, rfl⟩
        refine Shut.out hK _ _ hS0 (fun hSb => ?_)
        clear hK K
        try simp only [Act.put, List.setIfInBounds_toArray, List.set_cons_zero, List.set_cons_succ]
        refine wpAnyH_done (by kernel_rfl) ?_ _
        clear hS0 hSb
        clear hzb hcb
        have KD := Lib.hid (KK.out.drew)
        have RD := Lib.hid (RR.out.kept ((Kept.refl W0).drew))
        have OD := Lib.hid (OO.out.kept ((Kept.refl W0).drew))
        have LD := Lib.hid (LL.out.kept ((Kept.refl W0).drew))
        have hzd : W0.drew.heap.size = n + 1 := hz1.out
        clear RR OO LL KK l0 l1 l2 c1 c2
        generalize W0.drew = W1 at *
        have hzd' := Lib.hid hzd
        clear hzd
        have hnb : n ≠ b := by omega
        obtain ⟨c0, c1, c2, c3, c4, c5, c6⟩ := RD.out.cs
        obtain ⟨l0, l1, l2⟩ := LD.out.cs
        have fb := RD.out.frz
        clear c0 c2 c3 c4 c5 c6
        go_upto_region 5 with (fail)
        have R2 := Lib.hid (RD.out.setC xc)
        have e2 : Ex (Rw b (.slice la ls.length lc)) w (W1.setCell ⟨b, 1, none⟩ (iV xc)) := (Ex.of KD.out).set (Or.inl rfl) 1 (iV xc)
        have E2 := Lib.hid e2
        have O2 := Lib.hid (own_ex OD.out ((Ex.refl (fun k => k = b) W1).set rfl 1 (iV xc)) (fun g hg q => by
          have := HLT.out g hg
          omega))
        have L2 := Lib.hid (LD.out.other hnb 1 (iV xc))
        have hz2 := Lib.hid (show (W1.setCell ⟨b, 1, none⟩ (iV xc)).heap.size = n + 1 by simp [World.setCell]; exact hzd'.out)
        clear RD OD LD KD e2 l0 l1 l2 c1 fb
        generalize W1.setCell ⟨b, 1, none⟩ (iV xc) = W2 at *
        have R3 := Lib.hid (R2.out.kept ((Kept.refl W2).drew))
        have E3 := Lib.hid (E2.out.drew)
        have O3 := Lib.hid (OwnS.kept O2.out ((Kept.refl W2).drew))
        have L3' := Lib.hid (L2.out.kept ((Kept.refl W2).drew))
        have hz3 := Lib.hid (show W2.drew.heap.size = n + 1 from hz2.out)
        have hS := L2.out.cs.2.2
        clear R2 E2 O2 L2 hz2
        refine wp_region_held_drew (S := fun y => y.cell? ⟨n, 2, none⟩ = some (sV xt)) (by kernel_rfl) hS (fun hS0 => ?_)
        clear hS
        refine wpAnyH_take (i := 0) (oi := { dst := some 33, op := Go.Op.move (Go.Operand.tmp 0), type := 38, pos := "reader.go:61", after := #[], guard := none }) (v := ?vst0) rfl (by kernel_rfl) (by kernel_rfl) (by kernel_rfl) (fun _ _ _ h => h) (Or.inl ⟨by rfl, ?yst0⟩) (by assumption) ?rst0
        case yst0 => (intro wq hSw; (try dsimp only at hSw); go_simp; try with_reducible rfl)
        simp only [Act.put, List.setIfInBounds_toArray, List.set_cons_zero, List.set_cons_succ]
        refine wpAnyH_take (i := 1) (oi := { dst := some 34, op := Go.Op.move (Go.Operand.tmp 0), type := 38, pos := "reader.go:61", after := #[], guard := none }) (v := ?vst1) rfl (by kernel_rfl) (by kernel_rfl) (by kernel_rfl) (fun _ _ _ h => h) (Or.inl ⟨by rfl, ?yst1⟩) (by assumption) ?rst1
        case yst1 => (intro wq hSw; (try dsimp only at hSw); go_simp; try with_reducible rfl)
        simp only [Act.put, List.setIfInBounds_toArray, List.set_cons_zero, List.set_cons_succ]
        refine wpAnyH_take (i := 2) (oi := { dst := some 35, op := Go.Op.nilCheck (Go.Operand.tmp 34), type := 0, pos := "reader.go:61", after := #[{ on := 1, ground := Go.Ground.data }], guard := none }) (v := ?vst2) rfl (by kernel_rfl) (by kernel_rfl) (by kernel_rfl) (fun _ _ _ h => h) (Or.inl ⟨by rfl, ?yst2⟩) (by assumption) ?rst2
        case yst2 => (intro wq hSw; (try dsimp only at hSw); go_simp; try with_reducible rfl)
        simp only [Act.put, List.setIfInBounds_toArray, List.set_cons_zero, List.set_cons_succ]
        refine wpAnyH_take (i := 3) (oi := { dst := some 36, op := Go.Op.fieldAddr 59 (Go.Operand.tmp 35) 1, type := 0, pos := "reader.go:61", after := #[{ on := 2, ground := Go.Ground.data }], guard := none }) (v := ?vst3) rfl (by kernel_rfl) (by kernel_rfl) (by kernel_rfl) (fun _ _ _ h => h) (Or.inl ⟨by rfl, ?yst3⟩) (by assumption) ?rst3
        case yst3 => (intro wq hSw; (try dsimp only at hSw); go_simp; try with_reducible rfl)
        simp only [Act.put, List.setIfInBounds_toArray, List.set_cons_zero, List.set_cons_succ]
        refine wpAnyH_take (i := 4) (oi := { dst := some 37, op := Go.Op.fieldAddr 25 (Go.Operand.tmp 36) 1, type := 0, pos := "reader.go:61", after := #[{ on := 3, ground := Go.Ground.data }], guard := none }) (v := ?vst4) rfl (by kernel_rfl) (by kernel_rfl) (by kernel_rfl) (fun _ _ _ h => h) (Or.inl ⟨by rfl, ?yst4⟩) (by assumption) ?rst4
        case yst4 => (intro wq hSw; (try dsimp only at hSw); go_simp; try with_reducible rfl)
        simp only [Act.put, List.setIfInBounds_toArray, List.set_cons_zero, List.set_cons_succ]
        refine wpAnyH_take (i := 6) (oi := { dst := some 39, op := Go.Op.fieldAddr 67 (Go.Operand.tmp 3) 2, type := 0, pos := "reader.go:61", after := #[], guard := none }) (v := ?vst6) rfl (by kernel_rfl) (by kernel_rfl) (by kernel_rfl) (fun _ _ _ h => h) (Or.inl ⟨by rfl, ?yst6⟩) (by assumption) ?rst6
        case yst6 => (intro wq hSw; (try dsimp only at hSw); go_simp; try with_reducible rfl)
        simp only [Act.put, List.setIfInBounds_toArray, List.set_cons_zero, List.set_cons_succ]
        refine wpAnyH_take (i := 7) (oi := { dst := some 40, op := Go.Op.load 9 (Go.Operand.tmp 39), type := 9, pos := "reader.go:61", after := #[{ on := 6, ground := Go.Ground.data }], guard := none }) (v := ?vst7) rfl (by kernel_rfl) (by kernel_rfl) (by kernel_rfl) (fun _ _ _ h => h) (Or.inl ⟨by rfl, ?yst7⟩) (by assumption) ?rst7
        case yst7 => (intro wq hSw; (try dsimp only at hSw); go_simp; try with_reducible rfl)
        simp only [Act.put, List.setIfInBounds_toArray, List.set_cons_zero, List.set_cons_succ]
        generalize W2.drew = W3 at *
        refine wpAnyH_ready (rs := [5, 8]) (by kernel_rfl) (by simp) (AllReadyH.cons (o := { dst := some 38, op := Go.Op.load 22 (Go.Operand.tmp 37), type := 22, pos := "reader.go:61", after := #[{ on := 4, ground := Go.Ground.data }], guard := none }) rfl (fun K hK => ?_) (AllReadyH.cons (o := { dst := some 41, op := Go.Op.buildSlice 22 1 #[(0, Go.Operand.tmp 40)], type := 22, pos := "reader.go:61", after := #[{ on := 7, ground := Go.Ground.data }], guard := none }) rfl (fun K hK => ?_) AllReadyH.nil))
        · have c2 := R3.out.cs.2.2.1
          go_simp
          refine Shut.out hK _ _ L3'.out.cs.2.2 (fun hSb => ?_)
          clear hK K
          try simp only [Act.put, List.setIfInBounds_toArray, List.set_cons_zero, List.set_cons_succ]
          clear c2
          refine wpAnyH_ready (rs := [8]) (by kernel_rfl) (by simp) (AllReadyH.cons (o := { dst := some 41, op := Go.Op.buildSlice 22 1 #[(0, Go.Operand.tmp 40)], type := 22, pos := "reader.go:61", after := #[{ on := 7, ground := Go.Ground.data }], guard := none }) rfl (fun K hK => ?_) AllReadyH.nil)
          go_simp
          have kx := (Kept.refl W3).alloc (.cells #[sV xt] 9)
          have R4 := Lib.hid (R3.out.kept kx)
          have E4 := Lib.hid (E3.out.trans (Ex.of kx))
          have O4 := Lib.hid (OwnS.kept O3.out kx)
          have L4 := Lib.hid (L3'.out.kept kx)
          have hz4 := Lib.hid (show (W3.alloc (.cells #[sV xt] 9)).heap.size = n + 2 by simp; exact hz3.out)
          have Q4 := Lib.hid (show (W3.alloc (.cells #[sV xt] 9)).cell? ⟨W3.heap.size, 0, none⟩ = some (sV xt) from (Kept.refl (W3.alloc (.cells #[sV xt] 9))).new 0 rfl)
          clear kx
          refine Shut.out hK _ _ L4.out.cs.2.2 (fun hSb => ?_)
          clear hK K
          try simp only [Act.put, List.setIfInBounds_toArray, List.set_cons_zero, List.set_cons_succ]
          clear R3 E3 O3 L3'
          generalize W3.alloc (.cells #[sV xt] 9) = W4 at *
          refine wpAnyH_ready (rs := [9]) (by kernel_rfl) (by simp) (AllReadyH.cons (o := { dst := some 42, op := Go.Op.call { callee := Go.Callee.builtin Go.Builtin.append, args := #[Go.Operand.tmp 38, Go.Operand.tmp 41], argTypes := #[22, 22] }, type := 22, pos := "reader.go:61", after := #[{ on := 5, ground := Go.Ground.data }, { on := 8, ground := Go.Ground.data }], guard := none }) rfl (fun K hK => ?_) AllReadyH.nil)
          rw [if_pos (by rfl)]
          obtain ⟨v', w5, hr, hO5, hg5, hown⟩ := run_pushS W4 D 22 (.slice la ls.length lc) ls xt W3.heap.size O4.out Q4.out (by omega) (by rw [hz4.out]; omega)
          refine wp_okE (.tmp 38) (.tmp 41) 22 22 22 rfl hr (by rfl) (by rfl) rfl ?_
          have R5' := Lib.hid (R4.out.grow hg5 (NoRow.own O4.out (by decide)))
          have L5 := Lib.hid (L4.out.grow hg5 (NoRow.own O4.out (by decide)))
          have E5 := Lib.hid (E4.out.grown hg5 (fun k hk => Or.inl (Or.inr hk)))
          have O5 := Lib.hid hO5
          obtain ⟨va, vc, hv5⟩ := own_slice hO5
          rw [show (ls ++ [xt]).length = ls.length + 1 by simp] at hv5
          have HLT5 := Lib.hid (fun g hg => (World.ownsRow.lt hO5 g hg).1)
          have HOW := Lib.hid hown
          clear hO5 hg5 hr hown
          subst hv5
          refine Shut.out hK _ _ L5.out.cs.2.2 (fun hSb => ?_)
          clear hK K
          try simp only [Act.put, List.setIfInBounds_toArray, List.set_cons_zero, List.set_cons_succ]
          refine wpAnyH_take (i := 10) (oi := { dst := some 43, op := Go.Op.nilCheck (Go.Operand.tmp 33), type := 0, pos := "reader.go:61", after := #[{ on := 0, ground := Go.Ground.data }, { on := 0, ground := Go.Ground.phase }, { on := 1, ground := Go.Ground.phase }, { on := 2, ground := Go.Ground.phase }, { on := 3, ground := Go.Ground.phase }, { on := 4, ground := Go.Ground.phase }, { on := 5, ground := Go.Ground.phase }, { on := 6, ground := Go.Ground.phase }, { on := 7, ground := Go.Ground.phase }, { on := 8, ground := Go.Ground.phase }, { on := 9, ground := Go.Ground.phase }], guard := none }) (v := ?vsa10) rfl (by kernel_rfl) (by kernel_rfl) (by kernel_rfl) (fun _ _ _ h => h) (Or.inl ⟨by rfl, ?ysa10⟩) (by assumption) ?rsa10
          case ysa10 => (intro wq hSw; (try dsimp only at hSw); go_simp; try with_reducible rfl)
          simp only [Act.put, List.setIfInBounds_toArray, List.set_cons_zero, List.set_cons_succ]
          refine wpAnyH_take (i := 11) (oi := { dst := some 44, op := Go.Op.fieldAddr 59 (Go.Operand.tmp 43) 1, type := 0, pos := "reader.go:61", after := #[{ on := 10, ground := Go.Ground.data }, { on := 0, ground := Go.Ground.phase }, { on := 1, ground := Go.Ground.phase }, { on := 2, ground := Go.Ground.phase }, { on := 3, ground := Go.Ground.phase }, { on := 4, ground := Go.Ground.phase }, { on := 5, ground := Go.Ground.phase }, { on := 6, ground := Go.Ground.phase }, { on := 7, ground := Go.Ground.phase }, { on := 8, ground := Go.Ground.phase }, { on := 9, ground := Go.Ground.phase }], guard := none }) (v := ?vsa11) rfl (by kernel_rfl) (by kernel_rfl) (by kernel_rfl) (fun _ _ _ h => h) (Or.inl ⟨by rfl, ?ysa11⟩) (by assumption) ?rsa11
          case ysa11 => (intro wq hSw; (try dsimp only at hSw); go_simp; try with_reducible rfl)
          simp only [Act.put, List.setIfInBounds_toArray, List.set_cons_zero, List.set_cons_succ]
          refine wpAnyH_take (i := 12) (oi := { dst := some 45, op := Go.Op.fieldAddr 25 (Go.Operand.tmp 44) 1, type := 0, pos := "reader.go:61", after := #[{ on := 11, ground := Go.Ground.data }, { on := 0, ground := Go.Ground.phase }, { on := 1, ground := Go.Ground.phase }, { on := 2, ground := Go.Ground.phase }, { on := 3, ground := Go.Ground.phase }, { on := 4, ground := Go.Ground.phase }, { on := 5, ground := Go.Ground.phase }, { on := 6, ground := Go.Ground.phase }, { on := 7, ground := Go.Ground.phase }, { on := 8, ground := Go.Ground.phase }, { on := 9, ground := Go.Ground.phase }], guard := none }) (v := ?vsa12) rfl (by kernel_rfl) (by kernel_rfl) (by kernel_rfl) (fun _ _ _ h => h) (Or.inl ⟨by rfl, ?ysa12⟩) (by assumption) ?rsa12
          case ysa12 => (intro wq hSw; (try dsimp only at hSw); go_simp; try with_reducible rfl)
          simp only [Act.put, List.setIfInBounds_toArray, List.set_cons_zero, List.set_cons_succ]
          have d2 := R5'.out.cs.2.2.1
          have f2 := R5'.out.frz 2
          refine wpAnyH_ready (rs := [13]) (by kernel_rfl) (by simp) (AllReadyH.cons (o := { dst := none, op := Go.Op.store 22 (Go.Operand.tmp 45) (Go.Operand.tmp 42), type := 0, pos := "reader.go:61", after := #[{ on := 12, ground := Go.Ground.data }, { on := 9, ground := Go.Ground.data }, { on := 9, ground := Go.Ground.chain }, { on := 0, ground := Go.Ground.phase }, { on := 1, ground := Go.Ground.phase }, { on := 2, ground := Go.Ground.phase }, { on := 3, ground := Go.Ground.phase }, { on := 4, ground := Go.Ground.phase }, { on := 5, ground := Go.Ground.phase }, { on := 6, ground := Go.Ground.phase }, { on := 7, ground := Go.Ground.phase }, { on := 8, ground := Go.Ground.phase }, { on := 9, ground := Go.Ground.phase }], guard := none }) rfl (fun K hK => ?_) AllReadyH.nil)
          go_simp
          have R6 := Lib.hid (R5'.out.setL (.slice va (ls.length + 1) vc))
          have L6 := Lib.hid (L5.out.other hnb 2 (.slice va (ls.length + 1) vc))
          have E6 := Lib.hid (E5.out.set (Or.inl rfl) 2 (.slice va (ls.length + 1) vc))
          have O6 := Lib.hid (own_ex O5.out ((Ex.refl (fun k => k = b) w5).set rfl 2 (.slice va (ls.length + 1) vc)) (fun g hg q => by
            have := HLT5.out g hg
            omega))
          refine Shut.out hK _ _ L6.out.cs.2.2 (fun hSb => ?_)
          clear hK K
          try simp only [Act.put, List.setIfInBounds_toArray, List.set_cons_zero, List.set_cons_succ]
          refine wpAnyH_done (by kernel_rfl) ?_ _
          clear d2 f2 hS0
          go_end0
          refine (show AdP D b c _ _ r (xc, xl, xt) w _ _ from ?_)
          unfold AdP
          rw [if_pos ⟨h100, Or.inr HC.out⟩]
          refine ⟨rfl, E6.out, _, R6.out, O6.out, fun g hg => ?_⟩
          rcases HOW.out with q | q
          · exact Or.inl (q ▸ hg)
          · refine Or.inr ?_
            have q2 : some W4.heap.size = some g := q.symm.trans hg
            injection q2 with q2
            have := HN.out
            have := hz4.out
            omega
        · go_simp
          have kx := (Kept.refl W3).alloc (.cells #[sV xt] 9)
          have R4 := Lib.hid (R3.out.kept kx)
          have E4 := Lib.hid (E3.out.trans (Ex.of kx))
          have O4 := Lib.hid (OwnS.kept O3.out kx)
          have L4 := Lib.hid (L3'.out.kept kx)
          have hz4 := Lib.hid (show (W3.alloc (.cells #[sV xt] 9)).heap.size = n + 2 by simp; exact hz3.out)
          have Q4 := Lib.hid (show (W3.alloc (.cells #[sV xt] 9)).cell? ⟨W3.heap.size, 0, none⟩ = some (sV xt) from (Kept.refl (W3.alloc (.cells #[sV xt] 9))).new 0 rfl)
          clear kx
          refine Shut.out hK _ _ L4.out.cs.2.2 (fun hSb => ?_)
          clear hK K
          try simp only [Act.put, List.setIfInBounds_toArray, List.set_cons_zero, List.set_cons_succ]
          clear R3 E3 O3 L3'
          generalize W3.alloc (.cells #[sV xt] 9) = W4 at *
          have c2 := R4.out.cs.2.2.1
          refine wpAnyH_ready (rs := [5]) (by kernel_rfl) (by simp) (AllReadyH.cons (o := { dst := some 38, op := Go.Op.load 22 (Go.Operand.tmp 37), type := 22, pos := "reader.go:61", after := #[{ on := 4, ground := Go.Ground.data }], guard := none }) rfl (fun K hK => ?_) AllReadyH.nil)
          go_simp
          refine Shut.out hK _ _ L4.out.cs.2.2 (fun hSb => ?_)
          clear hK K
          try simp only [Act.put, List.setIfInBounds_toArray, List.set_cons_zero, List.set_cons_succ]
          clear c2
          refine wpAnyH_ready (rs := [9]) (by kernel_rfl) (by simp) (AllReadyH.cons (o := { dst := some 42, op := Go.Op.call { callee := Go.Callee.builtin Go.Builtin.append, args := #[Go.Operand.tmp 38, Go.Operand.tmp 41], argTypes := #[22, 22] }, type := 22, pos := "reader.go:61", after := #[{ on := 5, ground := Go.Ground.data }, { on := 8, ground := Go.Ground.data }], guard := none }) rfl (fun K hK => ?_) AllReadyH.nil)
          rw [if_pos (by rfl)]
          obtain ⟨v', w5, hr, hO5, hg5, hown⟩ := run_pushS W4 D 22 (.slice la ls.length lc) ls xt W3.heap.size O4.out Q4.out (by omega) (by rw [hz4.out]; omega)
          refine wp_okE (.tmp 38) (.tmp 41) 22 22 22 rfl hr (by rfl) (by rfl) rfl ?_
          have R5' := Lib.hid (R4.out.grow hg5 (NoRow.own O4.out (by decide)))
          have L5 := Lib.hid (L4.out.grow hg5 (NoRow.own O4.out (by decide)))
          have E5 := Lib.hid (E4.out.grown hg5 (fun k hk => Or.inl (Or.inr hk)))
          have O5 := Lib.hid hO5
          obtain ⟨va, vc, hv5⟩ := own_slice hO5
          rw [show (ls ++ [xt]).length = ls.length + 1 by simp] at hv5
          have HLT5 := Lib.hid (fun g hg => (World.ownsRow.lt hO5 g hg).1)
          have HOW := Lib.hid hown
          clear hO5 hg5 hr hown
          subst hv5
          refine Shut.out hK _ _ L5.out.cs.2.2 (fun hSb => ?_)
          clear hK K
          try simp only [Act.put, List.setIfInBounds_toArray, List.set_cons_zero, List.set_cons_succ]
          refine wpAnyH_take (i := 10) (oi := { dst := some 43, op := Go.Op.nilCheck (Go.Operand.tmp 33), type := 0, pos := "reader.go:61", after := #[{ on := 0, ground := Go.Ground.data }, { on := 0, ground := Go.Ground.phase }, { on := 1, ground := Go.Ground.phase }, { on := 2, ground := Go.Ground.phase }, { on := 3, ground := Go.Ground.phase }, { on := 4, ground := Go.Ground.phase }, { on := 5, ground := Go.Ground.phase }, { on := 6, ground := Go.Ground.phase }, { on := 7, ground := Go.Ground.phase }, { on := 8, ground := Go.Ground.phase }, { on := 9, ground := Go.Ground.phase }], guard := none }) (v := ?vsb10) rfl (by kernel_rfl) (by kernel_rfl) (by kernel_rfl) (fun _ _ _ h => h) (Or.inl ⟨by rfl, ?ysb10⟩) (by assumption) ?rsb10
          case ysb10 => (intro wq hSw; (try dsimp only at hSw); go_simp; try with_reducible rfl)
          simp only [Act.put, List.setIfInBounds_toArray, List.set_cons_zero, List.set_cons_succ]
          refine wpAnyH_take (i := 11) (oi := { dst := some 44, op := Go.Op.fieldAddr 59 (Go.Operand.tmp 43) 1, type := 0, pos := "reader.go:61", after := #[{ on := 10, ground := Go.Ground.data }, { on := 0, ground := Go.Ground.phase }, { on := 1, ground := Go.Ground.phase }, { on := 2, ground := Go.Ground.phase }, { on := 3, ground := Go.Ground.phase }, { on := 4, ground := Go.Ground.phase }, { on := 5, ground := Go.Ground.phase }, { on := 6, ground := Go.Ground.phase }, { on := 7, ground := Go.Ground.phase }, { on := 8, ground := Go.Ground.phase }, { on := 9, ground := Go.Ground.phase }], guard := none }) (v := ?vsb11) rfl (by kernel_rfl) (by kernel_rfl) (by kernel_rfl) (fun _ _ _ h => h) (Or.inl ⟨by rfl, ?ysb11⟩) (by assumption) ?rsb11
          case ysb11 => (intro wq hSw; (try dsimp only at hSw); go_simp; try with_reducible rfl)
          simp only [Act.put, List.setIfInBounds_toArray, List.set_cons_zero, List.set_cons_succ]
          refine wpAnyH_take (i := 12) (oi := { dst := some 45, op := Go.Op.fieldAddr 25 (Go.Operand.tmp 44) 1, type := 0, pos := "reader.go:61", after := #[{ on := 11, ground := Go.Ground.data }, { on := 0, ground := Go.Ground.phase }, { on := 1, ground := Go.Ground.phase }, { on := 2, ground := Go.Ground.phase }, { on := 3, ground := Go.Ground.phase }, { on := 4, ground := Go.Ground.phase }, { on := 5, ground := Go.Ground.phase }, { on := 6, ground := Go.Ground.phase }, { on := 7, ground := Go.Ground.phase }, { on := 8, ground := Go.Ground.phase }, { on := 9, ground := Go.Ground.phase }], guard := none }) (v := ?vsb12) rfl (by kernel_rfl) (by kernel_rfl) (by kernel_rfl) (fun _ _ _ h => h) (Or.inl ⟨by rfl, ?ysb12⟩) (by assumption) ?rsb12
          case ysb12 => (intro wq hSw; (try dsimp only at hSw); go_simp; try with_reducible rfl)
          simp only [Act.put, List.setIfInBounds_toArray, List.set_cons_zero, List.set_cons_succ]
          have d2 := R5'.out.cs.2.2.1
          have f2 := R5'.out.frz 2
          refine wpAnyH_ready (rs := [13]) (by kernel_rfl) (by simp) (AllReadyH.cons (o := { dst := none, op := Go.Op.store 22 (Go.Operand.tmp 45) (Go.Operand.tmp 42), type := 0, pos := "reader.go:61", after := #[{ on := 12, ground := Go.Ground.data }, { on := 9, ground := Go.Ground.data }, { on := 9, ground := Go.Ground.chain }, { on := 0, ground := Go.Ground.phase }, { on := 1, ground := Go.Ground.phase }, { on := 2, ground := Go.Ground.phase }, { on := 3, ground := Go.Ground.phase }, { on := 4, ground := Go.Ground.phase }, { on := 5, ground := Go.Ground.phase }, { on := 6, ground := Go.Ground.phase }, { on := 7, ground := Go.Ground.phase }, { on := 8, ground := Go.Ground.phase }, { on := 9, ground := Go.Ground.phase }], guard := none }) rfl (fun K hK => ?_) AllReadyH.nil)
          go_simp
          have R6 := Lib.hid (R5'.out.setL (.slice va (ls.length + 1) vc))
          have L6 := Lib.hid (L5.out.other hnb 2 (.slice va (ls.length + 1) vc))
          have E6 := Lib.hid (E5.out.set (Or.inl rfl) 2 (.slice va (ls.length + 1) vc))
          have O6 := Lib.hid (own_ex O5.out ((Ex.refl (fun k => k = b) w5).set rfl 2 (.slice va (ls.length + 1) vc)) (fun g hg q => by
            have := HLT5.out g hg
            omega))
          refine Shut.out hK _ _ L6.out.cs.2.2 (fun hSb => ?_)
          clear hK K
          try simp only [Act.put, List.setIfInBounds_toArray, List.set_cons_zero, List.set_cons_succ]
          refine wpAnyH_done (by kernel_rfl) ?_ _
          clear d2 f2 hS0
          go_end0
          refine (show AdP D b c _ _ r (xc, xl, xt) w _ _ from ?_)
          unfold AdP
          rw [if_pos ⟨h100, Or.inr HC.out⟩]
          refine ⟨rfl, E6.out, _, R6.out, O6.out, fun g hg => ?_⟩
          rcases HOW.out with q | q
          · exact Or.inl (q ▸ hg)
          · refine Or.inr ?_
            have q2 : some W4.heap.size = some g := q.symm.trans hg
            injection q2 with q2
            have := HN.out
            have := hz4.out
            omega
      · have hcb : (xc == c) = false := by simp [hc]
        have HF := Lib.hid (show AdP D b c ls (.slice la ls.length lc) r (xc, xl, xt) w gon W0.drew by
          unfold AdP
          rw [if_neg (fun e => by rcases e.2 with q | q; (· exact hz q); (· exact hc q))]
          exact ⟨rfl, KK.out.drew⟩)
        go_upto_region 3 with (fail)
        refine wp_region_held_drew (S := fun y => y.cell? ⟨n, 0, none⟩ = some (iV xc) ∧ y.cell? ⟨b, 1, none⟩ = some (iV c)) (by kernel_rfl) ⟨l0, c1⟩ (fun hS0 => ?_)
        refine wpAnyH_take (i := 0) (oi := { dst := some 14, op := Go.Op.move (Go.Operand.tmp 4), type := 3, pos := "reader.go:59", after := #[], guard := none }) (v := ?vrd0) rfl (by kernel_rfl) (by kernel_rfl) (by kernel_rfl) (fun _ _ _ h => h) (Or.inl ⟨by rfl, ?yrd0⟩) (by assumption) ?rrd0
        case yrd0 => (intro wq hSw; (try dsimp only at hSw); go_simp; try with_reducible rfl)
        simp only [Act.put, List.setIfInBounds_toArray, List.set_cons_zero, List.set_cons_succ]
        refine wpAnyH_take (i := 1) (oi := { dst := some 15, op := Go.Op.binOp Go.BinOp.eql 3 (Go.Operand.tmp 14) (Go.Operand.const (Go.Value.int Go.IntKind.i64 0)) 3, type := 4, pos := "reader.go:59", after := #[{ on := 0, ground := Go.Ground.data }], guard := none }) (v := ?vrd1) rfl (by kernel_rfl) (by kernel_rfl) (by kernel_rfl) (fun _ _ _ h => h) (Or.inl ⟨by rfl, ?yrd1⟩) (by assumption) ?rrd1
        case yrd1 => (intro wq hSw; (try dsimp only at hSw); go_simp; try with_reducible rfl)
        simp only [Act.put, List.setIfInBounds_toArray, List.set_cons_zero, List.set_cons_succ]
        refine wpAnyH_take (i := 2) (oi := { dst := some 16, op := Go.Op.move (Go.Operand.tmp 15), type := 4, pos := "reader.go:59", after := #[{ on := 1, ground := Go.Ground.data }], guard := none }) (v := ?vrd2) rfl (by kernel_rfl) (by kernel_rfl) (by kernel_rfl) (fun _ _ _ h => h) (Or.inl ⟨by rfl, ?yrd2⟩) (by assumption) ?rrd2
        case yrd2 => (intro wq hSw; (try dsimp only at hSw); go_simp; try with_reducible rfl)
        simp only [Act.put, List.setIfInBounds_toArray, List.set_cons_zero, List.set_cons_succ]
        refine wpAnyH_take (i := 3) (oi := { dst := some 17, op := Go.Op.fieldAddr 67 (Go.Operand.tmp 3) 0, type := 0, pos := "reader.go:59", after := #[{ on := 2, ground := Go.Ground.guard }], guard := some (2, false) }) (v := ?vrd3) rfl (by kernel_rfl) (by kernel_rfl) (by kernel_rfl) (fun _ _ _ h => h) (Or.inl ⟨by rfl, ?yrd3⟩) (by assumption) ?rrd3
        case yrd3 => (intro wq hSw; (try dsimp only at hSw); go_simp; try with_reducible rfl)
        simp only [Act.put, List.setIfInBounds_toArray, List.set_cons_zero, List.set_cons_succ]
        refine wpAnyH_take (i := 4) (oi := { dst := some 18, op := Go.Op.load 3 (Go.Operand.tmp 17), type := 3, pos := "reader.go:59", after := #[{ on := 3, ground := Go.Ground.data }, { on := 2, ground := Go.Ground.guard }], guard := some (2, false) }) (v := ?vrd4) rfl (by kernel_rfl) (by kernel_rfl) (by kernel_rfl) (fun _ _ _ h => h) (Or.inl ⟨by rfl, ?yrd4⟩) (by assumption) ?rrd4
        case yrd4 => (intro wq hSw; (try dsimp only at hSw); go_simp; try with_reducible rfl)
        simp only [Act.put, List.setIfInBounds_toArray, List.set_cons_zero, List.set_cons_succ]
        refine wpAnyH_take (i := 5) (oi := { dst := some 19, op := Go.Op.move (Go.Operand.tmp 0), type := 38, pos := "reader.go:59", after := #[{ on := 2, ground := Go.Ground.guard }], guard := some (2, false) }) (v := ?vrd5) rfl (by kernel_rfl) (by kernel_rfl) (by kernel_rfl) (fun _ _ _ h => h) (Or.inl ⟨by rfl, ?yrd5⟩) (by assumption) ?rrd5
        case yrd5 => (intro wq hSw; (try dsimp only at hSw); go_simp; try with_reducible rfl)
        simp only [Act.put, List.setIfInBounds_toArray, List.set_cons_zero, List.set_cons_succ]
        refine wpAnyH_take (i := 6) (oi := { dst := some 20, op := Go.Op.nilCheck (Go.Operand.tmp 19), type := 0, pos := "reader.go:59", after := #[{ on := 5, ground := Go.Ground.data }, { on := 2, ground := Go.Ground.guard }], guard := some (2, false) }) (v := ?vrd6) rfl (by kernel_rfl) (by kernel_rfl) (by kernel_rfl) (fun _ _ _ h => h) (Or.inl ⟨by rfl, ?yrd6⟩) (by assumption) ?rrd6
        case yrd6 => (intro wq hSw; (try dsimp only at hSw); go_simp; try with_reducible rfl)
        simp only [Act.put, List.setIfInBounds_toArray, List.set_cons_zero, List.set_cons_succ]
        refine wpAnyH_take (i := 7) (oi := { dst := some 21, op := Go.Op.fieldAddr 59 (Go.Operand.tmp 20) 1, type := 0, pos := "reader.go:59", after := #[{ on := 6, ground := Go.Ground.data }, { on := 2, ground := Go.Ground.guard }], guard := some (2, false) }) (v := ?vrd7) rfl (by kernel_rfl) (by kernel_rfl) (by kernel_rfl) (fun _ _ _ h => h) (Or.inl ⟨by rfl, ?yrd7⟩) (by assumption) ?rrd7
        case yrd7 => (intro wq hSw; (try dsimp only at hSw); go_simp; try with_reducible rfl)
        simp only [Act.put, List.setIfInBounds_toArray, List.set_cons_zero, List.set_cons_succ]
        refine wpAnyH_take (i := 8) (oi := { dst := some 22, op := Go.Op.fieldAddr 25 (Go.Operand.tmp 21) 0, type := 0, pos := "reader.go:59", after := #[{ on := 7, ground := Go.Ground.data }, { on := 2, ground := Go.Ground.guard }], guard := some (2, false) }) (v := ?vrd8) rfl (by kernel_rfl) (by kernel_rfl) (by kernel_rfl) (fun _ _ _ h => h) (Or.inl ⟨by rfl, ?yrd8⟩) (by assumption) ?rrd8
        case yrd8 => (intro wq hSw; (try dsimp only at hSw); go_simp; try with_reducible rfl)
        simp only [Act.put, List.setIfInBounds_toArray, List.set_cons_zero, List.set_cons_succ]
        refine wpAnyH_take (i := 9) (oi := { dst := some 23, op := Go.Op.load 3 (Go.Operand.tmp 22), type := 3, pos := "reader.go:59", after := #[{ on := 8, ground := Go.Ground.data }, { on := 2, ground := Go.Ground.guard }], guard := some (2, false) }) (v := ?vrd9) rfl (by kernel_rfl) (by kernel_rfl) (by kernel_rfl) (fun _ _ _ h => h) (Or.inl ⟨by rfl, ?yrd9⟩) (by assumption) ?rrd9
        case yrd9 => (intro wq hSw; (try dsimp only at hSw); go_simp; try with_reducible rfl)
        simp only [Act.put, List.setIfInBounds_toArray, List.set_cons_zero, List.set_cons_succ]
        refine wpAnyH_take (i := 10) (oi := { dst := some 24, op := Go.Op.binOp Go.BinOp.eql 3 (Go.Operand.tmp 18) (Go.Operand.tmp 23) 3, type := 4, pos := "reader.go:59", after := #[{ on := 4, ground := Go.Ground.data }, { on := 9, ground := Go.Ground.data }, { on := 2, ground := Go.Ground.guard }], guard := some (2, false) }) (v := ?vrd10) rfl (by kernel_rfl) (by kernel_rfl) (by kernel_rfl) (fun _ _ _ h => h) (Or.inl ⟨by rfl, ?yrd10⟩) (by assumption) ?rrd10
        case yrd10 => (intro wq hSw; (try dsimp only at hSw); go_simp; try with_reducible rfl)
        simp only [Act.put, List.setIfInBounds_toArray, List.set_cons_zero, List.set_cons_succ]
        refine wpAnyH_take (i := 11) (oi := { dst := some 25, op := Go.Op.pick (Go.Operand.tmp 16) (Go.Operand.const (Go.Value.bool true)) (Go.Operand.tmp 24), type := 4, pos := "reader.go:59", after := #[{ on := 2, ground := Go.Ground.data }, { on := 10, ground := Go.Ground.data }], guard := none }) (v := ?vrd11) rfl (by kernel_rfl) (by kernel_rfl) (by kernel_rfl) (fun _ _ _ h => h) (Or.inl ⟨by rfl, ?yrd11⟩) (by assumption) ?rrd11
        case yrd11 => (intro wq hSw; (try dsimp only at hSw); go_simp; try with_reducible rfl)
        simp only [Act.put, List.setIfInBounds_toArray, List.set_cons_zero, List.set_cons_succ]
        refine wpAnyH_ready (rs := [12]) (by kernel_rfl) (by simp) (AllReadyH.cons (o := { dst := some 26, op := Go.Op.call { callee := Go.Callee.value (Go.Operand.func 46), args := #[Go.Operand.tmp 25], argTypes := #[4] }, type := 0, pos := "reader.go:59", after := #[{ on := 11, ground := Go.Ground.data }, { on := 2, ground := Go.Ground.chain }], guard := none }) rfl (fun K hK => ?_) AllReadyH.nil)
        go_simp
        refine (need_no _).mono ?_
        rintro e wz ⟨rfl, rfl⟩
        exact ⟨rfl, HF.out⟩
  · have HF := Lib.hid (show AdP D b c ls (.slice la ls.length lc) r (xc, xl, xt) w gon W0 by
      unfold AdP
      rw [if_neg (fun e => h100 e.1)]
      exact ⟨rfl, KK.out⟩)
    clear c0 c3 c4 c5 c6
    go_wp2_with fail
    refine (need_not _ (by first | (simp; done) | (simp; omega)) _).mono ?_
    rintro e wy ⟨rfl, rfl⟩
    exact ⟨rfl, HF.out⟩
end Go.Proofs.YtdfmnjoklehifaaDoor.Bk.Rp
