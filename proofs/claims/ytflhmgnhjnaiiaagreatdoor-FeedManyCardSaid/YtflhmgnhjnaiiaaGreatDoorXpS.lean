/- Several texts of this seat, one behind the other. -/
import Derived.Test.YtflhmgnhjnaiiaaGreatDoorXpR
import Derived.Test.YtflhmgnhjnaiiaaGreatDoorXmY
import Derived.Deep.RegionHeld3
set_option linter.unusedSimpArgs false
/- Package xml: the reader whole; a piece more. -/
set_option linter.unusedVariables false
namespace Go.Proofs.YtflhmgnhjnaiiaaGreatDoor
open Go.ChangeShapes Go.WideShapes Go.ChangeAt Go.RowKit
open En Xm
/-- below a place all but one block is as it was -/
structure Bo (B0 b : Nat) (w w' : World) : Prop where
  os : w'.os = w.os
  tape : w'.tape = w.tape
  output : w'.output = w.output
  size : w.heap.size ≤ w'.heap.size
  block : ∀ k, k < B0 → k ≠ b → w'.heap[k]? = w.heap[k]?
theorem Bo.refl (B0 b : Nat) (w : World) : Bo B0 b w w := ⟨rfl, rfl, rfl, Nat.le_refl _, fun _ _ _ => rfl⟩
theorem Bo.trans {B0 b : Nat} {w x y : World} (h : Bo B0 b w x) (k : Bo B0 b x y) : Bo B0 b w y :=
  ⟨k.os.trans h.os, k.tape.trans h.tape, k.output.trans h.output, Nat.le_trans h.size k.size, fun j hj hb => (k.block j hj hb).trans (h.block j hj hb)⟩
theorem Bo.of {B0 b : Nat} {w w' : World} (o : Ob b w w') (hB : B0 ≤ w.heap.size) : Bo B0 b w w' := ⟨o.os, o.tape, o.output, o.size, fun k hk hb => o.block k (by omega) hb⟩
theorem Bo.kk {B0 b : Nat} {a w w' : World} (h : Bo B0 b a w) (k : Kept w w') (hB : B0 ≤ w.heap.size) : Bo B0 b a w' := h.trans ⟨k.os, k.tape, k.output, k.size, fun i hi _ => k.block i (by omega)⟩
theorem Bo.alloc {B0 b : Nat} {a w : World} (h : Bo B0 b a w) (hB : B0 ≤ w.heap.size) (o : Obj) : Bo B0 b a (w.alloc o) := h.kk ((Kept.refl w).alloc o) hB
theorem Bo.set {B0 b : Nat} {a w : World} (h : Bo B0 b a w) (j : Nat) (v : Value) : Bo B0 b a (w.setCell ⟨b, j, none⟩ v) := h.trans ⟨rfl, rfl, rfl, by simp [World.setCell], fun k hk hb => Below.heap_setCell _ _ _ _ hb⟩
theorem Bo.grown {B0 b : Nat} {a w w' : World} {row : Option Nat} (h : Bo B0 b a w) (hg : w.grownBy w' row) (hB : B0 ≤ w.heap.size) (hr : ∀ k, row = some k → B0 ≤ k) : Bo B0 b a w' :=
  h.trans ⟨hg.os, hg.tape, hg.output, hg.size, fun k hk _ => hg.block k (by omega) (fun e => by have := hr k e.symm; omega)⟩
theorem EX.bo {E0 B0 b : Nat} {w w' : World} (h : EX E0 w) (k : Bo B0 b w w') (h1 : E0 ≤ b) (h2 : E0 ≤ B0) : EX E0 w' := h.by fun a v ha hv => by
  have hb := k.block a.block (by omega) (by omega)
  unfold World.cell? at hv ⊢
  rw [hb]; exact hv
/-- the reader, whole -/
def PR (B0 b : Nat) (s : St) (w : World) : Prop :=
  b < B0 ∧ B0 ≤ w.heap.size ∧ (s.o ≠ [] → 1 ≤ s.n) ∧ ∃ ov lv, PB b s.r ov (decide (1 ≤ s.n)) lv w ∧ OwnS B0 ov s.o w ∧ TokO B0 lv s.l w
/-- a step's end -/
def RP (B0 b : Nat) (x : Re) (w : World) (e : Ending) (w' : World) : Prop := Bo B0 b w w' ∧ match x with
  | .ok s => e = .returned (.tuple #[]) ∧ PR B0 b s w'
  | .er k => e = gon k
theorem RP.ok {B0 b : Nat} {x : Re} {s : St} {w w' : World} (k : Bo B0 b w w') (h : PR B0 b s w') (hx : x = .ok s) : RP B0 b x w (.returned (.tuple #[])) w' := ⟨k, by subst hx; exact ⟨rfl, h⟩⟩
theorem RP.er {B0 b : Nat} {x : Re} {n : Int} {w w' : World} (k : Bo B0 b w w') (hx : x = .er n) : RP B0 b x w (gon n) w' := ⟨k, by subst hx; rfl⟩
theorem PR.of {B0 b : Nat} {s : St} {w : World} (h : PR B0 b s w) : ∃ ov lv, PB b s.r ov (decide (1 ≤ s.n)) lv w ∧ (∃ oa oc, ov = .slice oa s.o.length oc) ∧ ∀ (r' : B) (w' : World), PB b r' ov (decide (1 ≤ s.n)) lv w' → Ob b w w' → PR B0 b ⟨r', s.o, s.n, s.l⟩ w' ∧ Bo B0 b w w' := by
  obtain ⟨hB, hB2, hn, ov, lv, hP, hO, hT⟩ := h
  exact ⟨ov, lv, hP, own_slice hO, fun r' w' h1 o1 => ⟨⟨hB, Nat.le_trans hB2 o1.size, hn, ov, lv, h1, hO.keep o1.grown (NoRow.of hP (by decide)), hT.keep o1.grown (NoRow.of hP (by decide)) (NoRow.of hP (by decide))⟩, Bo.of o1 hB2⟩⟩
theorem PR.kept {B0 b : Nat} {s : St} {w w' : World} (h : PR B0 b s w) (k : Kept w w') : PR B0 b s w' := by
  obtain ⟨hB, hB2, hn, ov, lv, hP, hO, hT⟩ := h
  exact ⟨hB, Nat.le_trans hB2 k.size, hn, ov, lv, hP.kept k, hO.keep (k.grownBy none) NoRow.none, hT.keep (k.grownBy none) NoRow.none NoRow.none⟩
/-- a piece in a block of its own -/
def Tq (k : Nat) (t : Tk) (xa : Value) (w : World) : Prop := w.heap[k]? = some (.cells #[iV t.1, sV t.2.1, sV t.2.2.1, xa] 43 (0, 0))
theorem Tq.lt {k : Nat} {t : Tk} {xa : Value} {w : World} (h : Tq k t xa w) : k < w.heap.size := (Array.getElem?_eq_some_iff.1 h).1
theorem Tq.cs {k : Nat} {t : Tk} {xa : Value} {w : World} (h : Tq k t xa w) : w.cell? ⟨k, 0, none⟩ = some (iV t.1) ∧ w.cell? ⟨k, 1, none⟩ = some (sV t.2.1) ∧ w.cell? ⟨k, 2, none⟩ = some (sV t.2.2.1) ∧ w.cell? ⟨k, 3, none⟩ = some xa := by
  unfold Tq at h
  simp [World.cell?, h]
theorem Tq.kept {k : Nat} {t : Tk} {xa : Value} {w w' : World} (h : Tq k t xa w) (o : Kept w w') : Tq k t xa w' := (o.block k h.lt).trans h
theorem tq_new (w : World) (t : Tk) (xa : Value) : Tq w.heap.size t xa (w.alloc (.cells #[iV t.1, sV t.2.1, sV t.2.2.1, xa] 43)) := by
  show (w.heap.push _)[w.heap.size]? = _
  simp
theorem Tq.grow {k : Nat} {t : Tk} {xa : Value} {B0 n : Nat} {v : Value} {xs : List Value} {w w' : World} (h : Tq k t xa w) (hT : w.ownsRow B0 43 4 v n xs) (hg : w.grownBy w' v.ownBlock) (hne : ∀ g, v.ownBlock = some g → k ≠ g) : Tq k t xa w' := (hg.block k h.lt (fun e' => hne k e'.symm rfl)).trans h
/-- the pieces grown, the reader holds them -/
theorem ppush_fin {B0 b : Nat} {s : St} {ov lv v' xa : Value} {vs : List Value} {t : Tk} {x w7 : World} (hB : b < B0) (hBx : B0 ≤ x.heap.size) (hn : s.o ≠ [] → 1 ≤ s.n) (hR : PB b s.r ov (decide (1 ≤ s.n)) lv x) (hO : OwnS B0 ov s.o x)
    (hvs : vs.length = s.l.length) (hT : x.ownsRow B0 43 4 lv s.l.length (tkCells s.l vs)) (hA : AllA B0 vs s.l x) (hx : AtsO B0 xa t.2.2.2 x) (hg : x.grownBy w7 lv.ownBlock)
    (h7 : w7.ownsRow B0 43 4 v' (s.l.length + 1) (tkCells s.l vs ++ [iV t.1, sV t.2.1, sV t.2.2.1, xa])) :
    PR B0 b ⟨s.r, s.o, s.n, s.l ++ [t]⟩ (w7.setCell ⟨b, 3, none⟩ v') ∧ Bo B0 b x (w7.setCell ⟨b, 3, none⟩ v') := by
  have hR7 := hR.grow hg (NoRow.own hT (by decide))
  have hO7 := hO.keep hg (NoRow.own hT (by decide))
  have hT7 := TokO.snoc hvs hT hA hx hg h7
  have hb : Bo B0 b x w7 := (Bo.refl B0 b x).grown hg hBx (fun k hk => (World.ownsRow.lt hT k hk).1)
  have hB7 : B0 ≤ w7.heap.size := Nat.le_trans hBx hg.size
  refine ⟨⟨hB, by simpa [World.setCell] using hB7, hn, ov, v', hR7.setL v', ?_, ?_⟩, hb.set 3 v'⟩
  · exact hO7.keep ((Ob.refl b w7).set 3 v').grown (NoRow.of hR7 (by decide))
  · exact hT7.keep ((Ob.refl b w7).set 3 v').grown (NoRow.of hR7 (by decide)) (NoRow.of hR7 (by decide))
set_option maxRecDepth 100000 in
set_option maxHeartbeats 2000000 in
theorem padd_any (B0 b : Nat) (s : St) (t : Tk) (xa : Value) (w : World) (h : PR B0 b s w) (hx : AtsO B0 xa t.2.2.2 w) (hl : s.l.length ≤ 1000000) :
    Calls Tryz.prog 68 #[pV b, .agg #[iV t.1, sV t.2.1, sV t.2.2.1, xa]] w (RP B0 b (.ok ⟨s.r, s.o, s.n, s.l ++ [t]⟩) w) := by
  obtain ⟨hB, hB2, hn, ov, lv, hP, hO, vs, hvs, hT, hA⟩ := h
  obtain ⟨xo, xc, hxs⟩ := own_slice hx
  have h1c : xa.oneCell' = true := by rw [hxs]; rfl
  clear hxs
  have k0 := (Kept.refl w).alloc (.cells #[iV t.1, sV t.2.1, sV t.2.2.1, xa] 43)
  have Q0 := tq_new w t xa
  have hs0 : (w.alloc (.cells #[iV t.1, sV t.2.1, sV t.2.2.1, xa] 43)).heap.size = w.heap.size + 1 := by simp
  have hbl := hP.lt
  have hT_lt := fun g hg => (World.ownsRow.lt hT g hg).2
  have hne : ∀ g, lv.ownBlock = some g → w.heap.size ≠ g := fun g hg e => by
    have := hT_lt g hg
    omega
  go_enter Tryz.func68, Tryz.ntmps68
  go_upto_region 1 with (fail)
  generalize w.alloc (.cells #[iV t.1, sV t.2.1, sV t.2.2.1, xa] 43) = W0 at *
  have KD := (Kept.refl W0).drew
  have k1 := k0.trans KD
  have P1 := Lib.hid (hP.kept k1)
  have Q1 := Lib.hid (Q0.kept KD)
  have O1 := Lib.hid (hO.keep (k1.grownBy none) NoRow.none)
  have T1 := own_keep hT (k1.grownBy none) NoRow.none
  have A1 := hA.keep (k1.grownBy none) NoRow.none
  have X1 := hx.kept k1
  have B1 := (Bo.refl B0 b w).kk k1 hB2
  have hd1 : W0.drew.heap.size = w.heap.size + 1 := hs0
  obtain ⟨c0, c1, c2, c3⟩ := (hP.kept k0).cs
  obtain ⟨q0, q1, q2, q3⟩ := Q0.cs
  clear hP hO hT hA hx k0 k1 Q0 c0 c1 c2
  have c3' : W0.drew.cell? ⟨b, 3, none⟩ = some lv := c3
  clear c3
  refine wp_region_held_drew (S := fun y => y.cell? ⟨w.heap.size, 0, none⟩ = some (iV t.1) ∧ y.cell? ⟨w.heap.size, 1, none⟩ = some (sV t.2.1) ∧ y.cell? ⟨w.heap.size, 2, none⟩ = some (sV t.2.2.1) ∧ y.cell? ⟨w.heap.size, 3, none⟩ = some xa) (by kernel_rfl) ⟨q0, q1, q2, q3⟩ (fun hS0 => ?_)
  refine wpAnyH_take (i := 0) (oi := { dst := some 4, op := Go.Op.move (Go.Operand.tmp 0), type := 77, pos := "reader.go:171", after := #[], guard := none }) (v := ?va0) rfl (by kernel_rfl) (by kernel_rfl) (by kernel_rfl) (fun _ _ _ h => h) (Or.inl ⟨by rfl, ?ya0⟩) (by assumption) ?ra0
  case ya0 => (intro wq hSw; (try dsimp only at hSw); go_simp; try with_reducible rfl)
  simp only [Act.put, List.setIfInBounds_toArray, List.set_cons_zero, List.set_cons_succ]
  refine wpAnyH_take (i := 1) (oi := { dst := some 5, op := Go.Op.move (Go.Operand.tmp 0), type := 77, pos := "reader.go:171", after := #[], guard := none }) (v := ?va1) rfl (by kernel_rfl) (by kernel_rfl) (by kernel_rfl) (fun _ _ _ h => h) (Or.inl ⟨by rfl, ?ya1⟩) (by assumption) ?ra1
  case ya1 => (intro wq hSw; (try dsimp only at hSw); go_simp; try with_reducible rfl)
  simp only [Act.put, List.setIfInBounds_toArray, List.set_cons_zero, List.set_cons_succ]
  refine wpAnyH_take (i := 2) (oi := { dst := some 6, op := Go.Op.nilCheck (Go.Operand.tmp 5), type := 0, pos := "reader.go:171", after := #[{ on := 1, ground := Go.Ground.data }], guard := none }) (v := ?va2) rfl (by kernel_rfl) (by kernel_rfl) (by kernel_rfl) (fun _ _ _ h => h) (Or.inl ⟨by rfl, ?ya2⟩) (by assumption) ?ra2
  case ya2 => (intro wq hSw; (try dsimp only at hSw); go_simp; try with_reducible rfl)
  simp only [Act.put, List.setIfInBounds_toArray, List.set_cons_zero, List.set_cons_succ]
  refine wpAnyH_take (i := 3) (oi := { dst := some 7, op := Go.Op.fieldAddr 80 (Go.Operand.tmp 6) 3, type := 0, pos := "reader.go:171", after := #[{ on := 2, ground := Go.Ground.data }], guard := none }) (v := ?va3) rfl (by kernel_rfl) (by kernel_rfl) (by kernel_rfl) (fun _ _ _ h => h) (Or.inl ⟨by rfl, ?ya3⟩) (by assumption) ?ra3
  case ya3 => (intro wq hSw; (try dsimp only at hSw); go_simp; try with_reducible rfl)
  simp only [Act.put, List.setIfInBounds_toArray, List.set_cons_zero, List.set_cons_succ]
  refine wpAnyH_take (i := 5) (oi := { dst := some 9, op := Go.Op.load 43 (Go.Operand.tmp 3), type := 43, pos := "reader.go:171", after := #[], guard := none }) (v := ?va5) rfl (by kernel_rfl) (by kernel_rfl) (by kernel_rfl) (fun _ _ _ h => h) (Or.inl ⟨by rfl, ?ya5⟩) (by assumption) ?ra5
  case ya5 => (intro wq hSw; (try dsimp only at hSw); go_simp; try with_reducible rfl)
  simp only [Act.put, List.setIfInBounds_toArray, List.set_cons_zero, List.set_cons_succ]
  refine wpAnyH_ready (rs := [4, 6]) (by kernel_rfl) (by simp) (AllReadyH.cons (o := { dst := some 8, op := Go.Op.load 44 (Go.Operand.tmp 7), type := 44, pos := "reader.go:171", after := #[{ on := 3, ground := Go.Ground.data }], guard := none }) rfl (fun K hK => ?_) (AllReadyH.cons (o := { dst := some 10, op := Go.Op.buildSlice 44 1 #[(0, Go.Operand.tmp 9)], type := 44, pos := "reader.go:171", after := #[{ on := 5, ground := Go.Ground.data }], guard := none }) rfl (fun K hK => ?_) AllReadyH.nil))
  · have c3'' := c3'
    go_simp
    refine Shut.out hK _ _ Q1.out.cs (fun hSb => ?_)
    clear hK K
    try simp only [Act.put, List.setIfInBounds_toArray, List.set_cons_zero, List.set_cons_succ]
    clear c3''
    refine wpAnyH_ready (rs := [6]) (by kernel_rfl) (by simp) (AllReadyH.cons (o := { dst := some 10, op := Go.Op.buildSlice 44 1 #[(0, Go.Operand.tmp 9)], type := 44, pos := "reader.go:171", after := #[{ on := 5, ground := Go.Ground.data }], guard := none }) rfl (fun K hK => ?_) AllReadyH.nil)
    go_simp
    have kx : Kept W0.drew (W0.alloc (.cells #[iV t.1, sV t.2.1, sV t.2.2.1, xa] 43)).drew := (Kept.refl W0.drew).alloc (.cells #[iV t.1, sV t.2.1, sV t.2.2.1, xa] 43)
    have Q2 : Tq (w.heap.size + 1) t xa (W0.alloc (.cells #[iV t.1, sV t.2.1, sV t.2.2.1, xa] 43)).drew := by rw [← hs0]; exact tq_new W0.drew t xa
    have P2 := Lib.hid (P1.out.kept kx)
    have Q3 := Lib.hid (Q1.out.kept kx)
    have O2 := Lib.hid (O1.out.keep (kx.grownBy none) NoRow.none)
    have T2 := Lib.hid (own_keep T1 (kx.grownBy none) NoRow.none)
    have A2 := Lib.hid (A1.keep (kx.grownBy none) NoRow.none)
    have X2 := Lib.hid (X1.kept kx)
    have B2 := Lib.hid (B1.kk kx (by omega))
    refine Shut.out hK _ _ Q3.out.cs (fun hSb => ?_)
    clear hK K
    try simp only [Act.put, List.setIfInBounds_toArray, List.set_cons_zero, List.set_cons_succ]
    have hB3 : B0 ≤ (W0.alloc (.cells #[iV t.1, sV t.2.1, sV t.2.2.1, xa] 43)).drew.heap.size := by show B0 ≤ (W0.heap.push _).size; rw [Array.size_push]; omega
    generalize (W0.alloc (.cells #[iV t.1, sV t.2.1, sV t.2.2.1, xa] 43)).drew = W2 at *
    refine wpAnyH_ready (rs := [7]) (by kernel_rfl) (by simp) (AllReadyH.cons (o := { dst := some 11, op := Go.Op.call { callee := Go.Callee.builtin Go.Builtin.append, args := #[Go.Operand.tmp 8, Go.Operand.tmp 10], argTypes := #[44, 44] }, type := 44, pos := "reader.go:171", after := #[{ on := 4, ground := Go.Ground.data }, { on := 6, ground := Go.Ground.data }], guard := none }) rfl (fun K hK => ?_) AllReadyH.nil)
    rw [if_pos (by rfl)]
    refine wp_pushT (.tmp 8) (.tmp 10) rfl B0 lv s.l vs t xa (w.heap.size + 1) (by rfl) T2.out (by rfl) Q2.cs h1c hl hB3 ?_
    intro v' w7 h7 hg
    obtain ⟨ao, cp, rfl⟩ := own_slice h7
    obtain ⟨f1, f2⟩ := ppush_fin (s := s) (t := t) hB hB3 hn P2.out O2.out hvs T2.out A2.out X2.out hg h7
    have R7 := P2.out.grow hg (NoRow.own T2.out (by decide))
    have Q7 := Q3.out.grow T2.out hg hne
    have z3 := R7.fz 3
    have Z := Lib.hid (RP.ok (x := .ok ⟨s.r, s.o, s.n, s.l ++ [t]⟩) (B2.out.trans f2) f1 rfl)
    refine Shut.out hK _ _ Q7.cs (fun hSb => ?_)
    clear hK K
    try simp only [Act.put, List.setIfInBounds_toArray, List.set_cons_zero, List.set_cons_succ]
    refine wpAnyH_take (i := 8) (oi := { dst := some 12, op := Go.Op.nilCheck (Go.Operand.tmp 4), type := 0, pos := "reader.go:171", after := #[{ on := 0, ground := Go.Ground.data }, { on := 0, ground := Go.Ground.phase }, { on := 1, ground := Go.Ground.phase }, { on := 2, ground := Go.Ground.phase }, { on := 3, ground := Go.Ground.phase }, { on := 4, ground := Go.Ground.phase }, { on := 5, ground := Go.Ground.phase }, { on := 6, ground := Go.Ground.phase }, { on := 7, ground := Go.Ground.phase }], guard := none }) (v := ?vb8) rfl (by kernel_rfl) (by kernel_rfl) (by kernel_rfl) (fun _ _ _ h => h) (Or.inl ⟨by rfl, ?yb8⟩) (by assumption) ?rb8
    case yb8 => (intro wq hSw; (try dsimp only at hSw); go_simp; try with_reducible rfl)
    simp only [Act.put, List.setIfInBounds_toArray, List.set_cons_zero, List.set_cons_succ]
    refine wpAnyH_take (i := 9) (oi := { dst := some 13, op := Go.Op.fieldAddr 80 (Go.Operand.tmp 12) 3, type := 0, pos := "reader.go:171", after := #[{ on := 8, ground := Go.Ground.data }, { on := 0, ground := Go.Ground.phase }, { on := 1, ground := Go.Ground.phase }, { on := 2, ground := Go.Ground.phase }, { on := 3, ground := Go.Ground.phase }, { on := 4, ground := Go.Ground.phase }, { on := 5, ground := Go.Ground.phase }, { on := 6, ground := Go.Ground.phase }, { on := 7, ground := Go.Ground.phase }], guard := none }) (v := ?vb9) rfl (by kernel_rfl) (by kernel_rfl) (by kernel_rfl) (fun _ _ _ h => h) (Or.inl ⟨by rfl, ?yb9⟩) (by assumption) ?rb9
    case yb9 => (intro wq hSw; (try dsimp only at hSw); go_simp; try with_reducible rfl)
    simp only [Act.put, List.setIfInBounds_toArray, List.set_cons_zero, List.set_cons_succ]
    obtain ⟨d0, d1, d2, d3⟩ := R7.cs
    have Q8 : Tq w.heap.size t xa (w7.setCell ⟨b, 3, none⟩ (.slice ao (s.l.length + 1) cp)) := (Below.heap_setCell _ _ _ _ (by show w.heap.size ≠ b; omega)).trans Q7
    refine wpAnyH_ready (rs := [10]) (by kernel_rfl) (by simp) (AllReadyH.cons (o := { dst := none, op := Go.Op.store 44 (Go.Operand.tmp 13) (Go.Operand.tmp 11), type := 0, pos := "reader.go:171", after := #[{ on := 9, ground := Go.Ground.data }, { on := 7, ground := Go.Ground.data }, { on := 7, ground := Go.Ground.chain }, { on := 0, ground := Go.Ground.phase }, { on := 1, ground := Go.Ground.phase }, { on := 2, ground := Go.Ground.phase }, { on := 3, ground := Go.Ground.phase }, { on := 4, ground := Go.Ground.phase }, { on := 5, ground := Go.Ground.phase }, { on := 6, ground := Go.Ground.phase }, { on := 7, ground := Go.Ground.phase }], guard := none }) rfl (fun K hK => ?_) AllReadyH.nil)
    go_simp
    refine Shut.out hK _ _ Q8.cs (fun hSb => ?_)
    clear hK K
    try simp only [Act.put, List.setIfInBounds_toArray, List.set_cons_zero, List.set_cons_succ]
    refine wpAnyH_done (by kernel_rfl) ?_ _
    go_end0
    exact Z.out
  · go_simp
    have kx : Kept W0.drew (W0.alloc (.cells #[iV t.1, sV t.2.1, sV t.2.2.1, xa] 43)).drew := (Kept.refl W0.drew).alloc (.cells #[iV t.1, sV t.2.1, sV t.2.2.1, xa] 43)
    have Q2 : Tq (w.heap.size + 1) t xa (W0.alloc (.cells #[iV t.1, sV t.2.1, sV t.2.2.1, xa] 43)).drew := by rw [← hs0]; exact tq_new W0.drew t xa
    have P2 := Lib.hid (P1.out.kept kx)
    have Q3 := Lib.hid (Q1.out.kept kx)
    have O2 := Lib.hid (O1.out.keep (kx.grownBy none) NoRow.none)
    have T2 := Lib.hid (own_keep T1 (kx.grownBy none) NoRow.none)
    have A2 := Lib.hid (A1.keep (kx.grownBy none) NoRow.none)
    have X2 := Lib.hid (X1.kept kx)
    have B2 := Lib.hid (B1.kk kx (by omega))
    refine Shut.out hK _ _ Q3.out.cs (fun hSb => ?_)
    clear hK K
    try simp only [Act.put, List.setIfInBounds_toArray, List.set_cons_zero, List.set_cons_succ]
    have hB3 : B0 ≤ (W0.alloc (.cells #[iV t.1, sV t.2.1, sV t.2.2.1, xa] 43)).drew.heap.size := by show B0 ≤ (W0.heap.push _).size; rw [Array.size_push]; omega
    generalize (W0.alloc (.cells #[iV t.1, sV t.2.1, sV t.2.2.1, xa] 43)).drew = W2 at *
    have c3'' := P2.out.cs.2.2.2
    refine wpAnyH_ready (rs := [4]) (by kernel_rfl) (by simp) (AllReadyH.cons (o := { dst := some 8, op := Go.Op.load 44 (Go.Operand.tmp 7), type := 44, pos := "reader.go:171", after := #[{ on := 3, ground := Go.Ground.data }], guard := none }) rfl (fun K hK => ?_) AllReadyH.nil)
    go_simp
    refine Shut.out hK _ _ Q3.out.cs (fun hSb => ?_)
    clear hK K
    try simp only [Act.put, List.setIfInBounds_toArray, List.set_cons_zero, List.set_cons_succ]
    clear c3''
    refine wpAnyH_ready (rs := [7]) (by kernel_rfl) (by simp) (AllReadyH.cons (o := { dst := some 11, op := Go.Op.call { callee := Go.Callee.builtin Go.Builtin.append, args := #[Go.Operand.tmp 8, Go.Operand.tmp 10], argTypes := #[44, 44] }, type := 44, pos := "reader.go:171", after := #[{ on := 4, ground := Go.Ground.data }, { on := 6, ground := Go.Ground.data }], guard := none }) rfl (fun K hK => ?_) AllReadyH.nil)
    rw [if_pos (by rfl)]
    refine wp_pushT (.tmp 8) (.tmp 10) rfl B0 lv s.l vs t xa (w.heap.size + 1) (by rfl) T2.out (by rfl) Q2.cs h1c hl hB3 ?_
    intro v' w7 h7 hg
    obtain ⟨ao, cp, rfl⟩ := own_slice h7
    obtain ⟨f1, f2⟩ := ppush_fin (s := s) (t := t) hB hB3 hn P2.out O2.out hvs T2.out A2.out X2.out hg h7
    have R7 := P2.out.grow hg (NoRow.own T2.out (by decide))
    have Q7 := Q3.out.grow T2.out hg hne
    have z3 := R7.fz 3
    have Z := Lib.hid (RP.ok (x := .ok ⟨s.r, s.o, s.n, s.l ++ [t]⟩) (B2.out.trans f2) f1 rfl)
    refine Shut.out hK _ _ Q7.cs (fun hSb => ?_)
    clear hK K
    try simp only [Act.put, List.setIfInBounds_toArray, List.set_cons_zero, List.set_cons_succ]
    refine wpAnyH_take (i := 8) (oi := { dst := some 12, op := Go.Op.nilCheck (Go.Operand.tmp 4), type := 0, pos := "reader.go:171", after := #[{ on := 0, ground := Go.Ground.data }, { on := 0, ground := Go.Ground.phase }, { on := 1, ground := Go.Ground.phase }, { on := 2, ground := Go.Ground.phase }, { on := 3, ground := Go.Ground.phase }, { on := 4, ground := Go.Ground.phase }, { on := 5, ground := Go.Ground.phase }, { on := 6, ground := Go.Ground.phase }, { on := 7, ground := Go.Ground.phase }], guard := none }) (v := ?vc8) rfl (by kernel_rfl) (by kernel_rfl) (by kernel_rfl) (fun _ _ _ h => h) (Or.inl ⟨by rfl, ?yc8⟩) (by assumption) ?rc8
    case yc8 => (intro wq hSw; (try dsimp only at hSw); go_simp; try with_reducible rfl)
    simp only [Act.put, List.setIfInBounds_toArray, List.set_cons_zero, List.set_cons_succ]
    refine wpAnyH_take (i := 9) (oi := { dst := some 13, op := Go.Op.fieldAddr 80 (Go.Operand.tmp 12) 3, type := 0, pos := "reader.go:171", after := #[{ on := 8, ground := Go.Ground.data }, { on := 0, ground := Go.Ground.phase }, { on := 1, ground := Go.Ground.phase }, { on := 2, ground := Go.Ground.phase }, { on := 3, ground := Go.Ground.phase }, { on := 4, ground := Go.Ground.phase }, { on := 5, ground := Go.Ground.phase }, { on := 6, ground := Go.Ground.phase }, { on := 7, ground := Go.Ground.phase }], guard := none }) (v := ?vc9) rfl (by kernel_rfl) (by kernel_rfl) (by kernel_rfl) (fun _ _ _ h => h) (Or.inl ⟨by rfl, ?yc9⟩) (by assumption) ?rc9
    case yc9 => (intro wq hSw; (try dsimp only at hSw); go_simp; try with_reducible rfl)
    simp only [Act.put, List.setIfInBounds_toArray, List.set_cons_zero, List.set_cons_succ]
    obtain ⟨d0, d1, d2, d3⟩ := R7.cs
    have Q8 : Tq w.heap.size t xa (w7.setCell ⟨b, 3, none⟩ (.slice ao (s.l.length + 1) cp)) := (Below.heap_setCell _ _ _ _ (by show w.heap.size ≠ b; omega)).trans Q7
    refine wpAnyH_ready (rs := [10]) (by kernel_rfl) (by simp) (AllReadyH.cons (o := { dst := none, op := Go.Op.store 44 (Go.Operand.tmp 13) (Go.Operand.tmp 11), type := 0, pos := "reader.go:171", after := #[{ on := 9, ground := Go.Ground.data }, { on := 7, ground := Go.Ground.data }, { on := 7, ground := Go.Ground.chain }, { on := 0, ground := Go.Ground.phase }, { on := 1, ground := Go.Ground.phase }, { on := 2, ground := Go.Ground.phase }, { on := 3, ground := Go.Ground.phase }, { on := 4, ground := Go.Ground.phase }, { on := 5, ground := Go.Ground.phase }, { on := 6, ground := Go.Ground.phase }, { on := 7, ground := Go.Ground.phase }], guard := none }) rfl (fun K hK => ?_) AllReadyH.nil)
    go_simp
    refine Shut.out hK _ _ Q8.cs (fun hSb => ?_)
    clear hK K
    try simp only [Act.put, List.setIfInBounds_toArray, List.set_cons_zero, List.set_cons_succ]
    refine wpAnyH_done (by kernel_rfl) ?_ _
    go_end0
    exact Z.out
end Go.Proofs.YtflhmgnhjnaiiaaGreatDoor
/- Package xml: text, an element's end, an element's beginning, told to the reader. -/
set_option linter.unusedVariables false
namespace Go.Proofs.YtflhmgnhjnaiiaaGreatDoor
open Go.ChangeShapes Go.WideShapes Go.ChangeAt Go.RowKit
open En Xm
theorem paddt_any (B0 b : Nat) (s : St) (t : B) (w : World) (h : PR B0 b s w) (ho : s.o ≠ []) (hl : s.l.length ≤ 1000000) :
    Calls Tryz.prog 55 #[pV b, sV t] w (RP B0 b (.ok ⟨s.r, s.o, s.n, put t s.o s.l⟩) w) := by
  by_cases ht : t = []
  · subst ht
    have Z := Lib.hid (show RP B0 b (.ok ⟨s.r, s.o, s.n, put [] s.o s.l⟩) w (.returned (.tuple #[])) w from RP.ok (Bo.refl _ _ _) h (by unfold put; simp))
    clear h
    go_enter Tryz.func55, Tryz.ntmps55
    go_wp2
    go_end0
    exact Z.out
  · have hte : t.isEmpty = false := by simpa using ht
    have hp : put t s.o s.l = s.l ++ [tX t] := by unfold put; rw [if_neg (by simp [ht, ho])]
    rw [hp]
    have Z := Lib.hid (padd_any B0 b s (tX t) (.slice none 0 0) w h (AtsO.nil B0 w) hl)
    clear h hp ho
    go_enter Tryz.func55, Tryz.ntmps55
    go_wp2_with fail
    refine Z.out.mono ?_
    rintro e w1 ⟨b1, rfl, h1⟩
    have Y := Lib.hid (RP.ok (x := .ok ⟨s.r, s.o, s.n, s.l ++ [tX t]⟩) b1 h1 rfl)
    clear b1 h1 Z
    go_wp2
    go_end0
    exact Y.out
theorem OwnS.cut {B0 g cap : Nat} {o : List B} {w : World} (h : OwnS B0 (.slice (some ⟨g, 0, none⟩) o.length cap) o w) : OwnS B0 (.slice (some ⟨g, 0, none⟩) (o.length - 1) cap) o.dropLast w := by
  obtain ⟨h1, h2⟩ := h
  refine ⟨by simp, ?_⟩
  rcases h2 with ⟨h2, _⟩ | ⟨g', cap', cur, h2, h3, h4, h5, h6, h7, h8⟩
  · cases h2
  · cases h2
    refine Or.inr ⟨g, cap, cur, by rw [List.length_dropLast], h3, h4, by rw [List.length_dropLast]; omega, h6, h7, ?_⟩
    rw [List.length_dropLast, Nat.mul_one]
    rw [Nat.mul_one] at h8
    have := congrArg (List.take (o.length - 1)) h8
    rw [List.take_take, Nat.min_eq_left (by omega)] at this
    rw [this, List.dropLast_eq_take, List.map_take]
theorem PR.setO {B0 b : Nat} {s : St} {ov lv v' : Value} {w : World} {o' : List B} (hB : b < B0) (hB2 : B0 ≤ w.heap.size) (hn : o' ≠ [] → 1 ≤ s.n) (hR : PB b s.r ov (decide (1 ≤ s.n)) lv w) (hO : OwnS B0 v' o' w) (hT : TokO B0 lv s.l w) :
    PR B0 b ⟨s.r, o', s.n, s.l⟩ (w.setCell ⟨b, 1, none⟩ v') :=
  ⟨hB, by simpa [World.setCell] using hB2, hn, v', lv, hR.setO v', hO.keep ((Ob.refl b w).set 1 v').grown (NoRow.of hR (by decide)), hT.keep ((Ob.refl b w).set 1 v').grown (NoRow.of hR (by decide)) (NoRow.of hR (by decide))⟩
set_option maxRecDepth 100000 in
set_option maxHeartbeats 2000000 in
theorem pleave_any (B0 b : Nat) (s : St) (nm : B) (w : World) (h : PR B0 b s w) (hl : s.l.length ≤ 1000000) (hol : s.o.length ≤ 1000) :
    Calls Tryz.prog 58 #[pV b, sV nm] w (RP B0 b (shut nm s.r s) w) := by
  obtain ⟨hB, hB2, hn, ov, lv, hP, hO, hT⟩ := h
  obtain ⟨c0, c1, c2, c3⟩ := hP.cs
  by_cases ho : s.o = []
  · obtain ⟨oa, oc, hov⟩ := own_slice hO
    rw [hov] at c1
    have hlen : s.o.length = 0 := by rw [ho]; rfl
    have Z := Lib.hid (show RP B0 b (shut nm s.r s) w (gon 2) w from RP.er (Bo.refl _ _ _) (by unfold shut; rw [ho, if_neg (by simp)]))
    clear hO hT hP hov c0 c2 c3 hn
    rw [hlen] at c1
    go_enter Tryz.func58, Tryz.ntmps58
    go_wp2_with fail
    refine (need_no _).mono ?_
    rintro e w1 ⟨rfl, rfl⟩
    exact ⟨rfl, Z.out⟩
  have hlen : s.o.length ≠ 0 := fun e => ho (List.length_eq_zero_iff.1 e)
  obtain ⟨g, cap, hov, hcap, hcm⟩ := own_some hO hlen
  obtain ⟨x, hx⟩ : ∃ x, s.o.getLast? = some x := ⟨s.o.getLast ho, List.getLast?_eq_some_getLast ho⟩
  subst hov
  have hcl : w.cell? ⟨g, s.o.length - 1, none⟩ = some (sV x) := by
    rw [World.ownsRow.cellAt hO (s.o.length - 1) (by omega), List.getElem?_map, last_of ho, hx]; rfl
  have hnl : ((s.o.length : Int) - 1) = ((s.o.length - 1 : Nat) : Int) := by omega
  have hge : decide ((0 : Int) ≤ (s.o.length : Int) - 1) = true := decide_eq_true (by omega)
  have h1 : (0 : Int) ≤ (s.o.length : Int) - 1 := by omega
  have h2 : (s.o.length : Int) - 1 < s.o.length := by omega
  by_cases hnm : x = nm
  · subst hnm
    have hxx : (x == x) = true := by simp
    have hsl : ∀ W : World, (Instr.slice 78 (.slice (some ⟨g, 0, none⟩) s.o.length cap) none (some (iV ((s.o.length - 1 : Nat) : Int))) none).run Tryz.prog W = .ok (.slice (some ⟨g, 0, none⟩) (s.o.length - 1) cap) W := fun W => by
      rw [run_slice_h W 78 _ _ _ (by kernel_rfl) .i64 _ (by omega) (by omega), Int.toNat_natCast, show Tryz.prog.elem 78 = 9 by kernel_rfl]
      simp [sliced, Result.andThen]
      intro _
      rfl
    have H8 := Lib.hid (PR.setO (s := s) hB hB2 (fun q => hn ho) hP hO.cut hT)
    have HX := Lib.hid hx
    have hb8 := Lib.hid ((Bo.refl B0 b w).set 1 (.slice (some ⟨g, 0, none⟩) (s.o.length - 1) cap))
    have f1 := hP.fz 1
    clear hO hT hP c0 c2 c3 hn hx
    go_enter Tryz.func58, Tryz.ntmps58
    go_wp2_with fail
    refine (need_yes _).mono ?_
    rintro e w1 ⟨rfl, rfl⟩
    go_upto_region 3 with (fail)
    generalize w.setCell ⟨b, 1, none⟩ (.slice (some ⟨g, 0, none⟩) (s.o.length - 1) cap) = W1 at *
    go_wp2_with fail
    refine (padd_any B0 b ⟨s.r, s.o.dropLast, s.n, s.l⟩ (tC x) (.slice none 0 0) _ H8.out (AtsO.nil B0 _) hl).mono ?_
    rintro e w2 ⟨b2, rfl, h2'⟩
    have Z := Lib.hid (show RP B0 b (shut x s.r s) w (.returned (.tuple #[])) w2 from RP.ok (hb8.out.trans b2) h2' (by unfold shut; rw [if_pos HX.out]))
    clear b2 h2'
    go_wp2
    go_end0
    exact Z.out
  · have hxb : (x == nm) = false := by simpa using hnm
    have Z := Lib.hid (show RP B0 b (shut nm s.r s) w (gon 2) w from RP.er (Bo.refl _ _ _) (by unfold shut; rw [hx, if_neg (by simpa using hnm)]))
    clear hO hT hP c0 c2 c3 hn hx
    go_enter Tryz.func58, Tryz.ntmps58
    go_wp2_with fail
    refine (need_no _).mono ?_
    rintro e w1 ⟨rfl, rfl⟩
    exact ⟨rfl, Z.out⟩
/-- an element is entered -/
def entS (nm : B) (al : List Atr) (s : St) : Re :=
  if s.o = [] ∧ 1 ≤ s.n then .er 2
  else if 20 < s.o.length + 1 then .er 5
  else .ok ⟨s.r, s.o ++ [nm], if s.o = [] then s.n + 1 else s.n, s.l ++ [tO nm al]⟩
theorem PR.setG {B0 b : Nat} {s : St} {w : World} {n' : Nat} (h : PR B0 b s w) (hn' : 1 ≤ n') : PR B0 b ⟨s.r, s.o, n', s.l⟩ (w.setCell ⟨b, 2, none⟩ (.bool true)) := by
  obtain ⟨hB, hB2, hn, ov, lv, hP, hO, hT⟩ := h
  refine ⟨hB, by simpa [World.setCell] using hB2, fun _ => hn', ov, lv, ?_, hO.keep ((Ob.refl b w).set 2 _).grown (NoRow.of hP (by decide)), hT.keep ((Ob.refl b w).set 2 _).grown (NoRow.of hP (by decide)) (NoRow.of hP (by decide))⟩
  have := hP.setG true
  rw [show decide (1 ≤ n') = true from decide_eq_true hn']
  exact this
set_option maxRecDepth 100000 in
set_option maxHeartbeats 2000000 in
theorem penter_any (B0 b : Nat) (s : St) (nm : B) (al : List Atr) (xa : Value) (w : World) (h : PR B0 b s w) (hx : AtsO B0 xa al w) (hl : s.l.length ≤ 1000000) (hol : s.o.length ≤ 900) :
    Calls Tryz.prog 60 #[pV b, sV nm, xa] w (RP B0 b (entS nm al s) w) := by
  have hh := h
  obtain ⟨hB, hB2, hn, ov, lv, hP, hO, hT⟩ := h
  obtain ⟨c0, c1, c2, c3⟩ := hP.cs
  obtain ⟨oa, oc, hov⟩ := own_slice hO
  obtain ⟨xo, xc, hxs⟩ := own_slice hx
  by_cases hbad : s.o = [] ∧ 1 ≤ s.n
  · have hlen : s.o.length = 0 := by rw [hbad.1]; rfl
    rw [decide_eq_true hbad.2] at c2
    rw [hov, hlen] at c1
    have Z := Lib.hid (show RP B0 b (entS nm al s) w (gon 2) w from RP.er (Bo.refl _ _ _) (by unfold entS; rw [if_pos hbad]))
    clear hh hO hT hP hn hx hov c0 c3 hbad
    subst hxs
    go_enter Tryz.func60, Tryz.ntmps60
    go_wp2_with fail
    refine (need_no _).mono ?_
    rintro e w1 ⟨rfl, rfl⟩
    exact ⟨rfl, Z.out⟩
  · -- the flag set, the name appended
    have hn' : 1 ≤ (if s.o = [] then s.n + 1 else s.n) := by
      split
      · omega
      · rename_i q; exact hn q
    have hneed : (!decide (1 ≤ s.n) || decide ((0 : Int) < s.o.length)) = true := by
      by_cases q : s.o = []
      · have h0 : decide (1 ≤ s.n) = false := decide_eq_false fun q2 => hbad ⟨q, q2⟩
        rw [h0]; rfl
      · have h0 : decide ((0 : Int) < s.o.length) = true := decide_eq_true (by have := List.length_pos_iff.2 q; omega)
        rw [h0, Bool.or_true]
    have HENT := Lib.hid (show entS nm al s = if 20 < s.o.length + 1 then .er 5 else .ok ⟨s.r, s.o ++ [nm], if s.o = [] then s.n + 1 else s.n, s.l ++ [tO nm al]⟩ by unfold entS; rw [if_neg hbad])
    have G1 := hh.setG hn'
    have Gx := own_keep hx ((Ob.refl b w).set 2 (.bool true)).grown (NoRow.of hP (by decide))
    have Gb := (Bo.refl B0 b w).set 2 (.bool true)
    have f2 := hP.fz 2
    clear hO hT hx hbad hh
    generalize hn0 : (if s.o = [] then s.n + 1 else s.n) = n' at *
    obtain ⟨_, hB3, hn3, ov3, lv3, hP3, hO3, hT3⟩ := G1
    have hd : decide (1 ≤ n') = true := decide_eq_true hn'
    rw [hd] at hP3
    subst hov
    subst hxs
    cases hg : decide (1 ≤ s.n) with
    | false =>
      rw [hg] at c2
      clear hneed
      go_enter Tryz.func60, Tryz.ntmps60
      go_wp2_with fail
      refine (need_yes _).mono ?_
      rintro e w1 ⟨rfl, rfl⟩
      go_upto_region 2 with (fail)
      generalize w.setCell ⟨b, 2, none⟩ (.bool true) = W1 at *
      obtain ⟨oa3, oc3, hov3⟩ := own_slice hO3
      obtain ⟨i0, hi, hz0, hz1, hz2⟩ := info_parts infoS
      have x1 := World.grownBy_alloc W1 (.cells #[sV nm] 9) none
      have hOx := Lib.hid (World.ownsRow.alloc hO3 (.cells #[sV nm] 9))
      have hPx := Lib.hid (hP3.kept ((Kept.refl W1).alloc (.cells #[sV nm] 9)))
      have hTx := Lib.hid (hT3.keep x1 NoRow.none NoRow.none)
      have hXx := Lib.hid (own_keep Gx x1 NoRow.none)
      have hbx := Lib.hid (Gb.alloc hB3 (.cells #[sV nm] 9))
      obtain ⟨d0, d1, d2, d3⟩ := hP3.cs
      subst hov3
      clear hO3 hP3 hT3 Gx Gb x1 c0 c1 c2 c3 hP
      go_wp2_with (at_builtin; refine wpList_append_own _ rfl _ _ 78 rfl B0 9 i0 _ 1 16 Tryz.underlying78 hi hz0 hz1 hz2 rfl (by decide) _ _ _ rfl hOx.out ⟨W1.heap.size, 0, none⟩ 1 1 [sV nm] rfl rfl ?n1 ?n2 ?n3 ?n4 ?n5 ?_)
      case n1 =>
        intro j u hj
        match j, hj with
        | 0, hj => simp at hj; subst hj; simp [Addr.add]
      case n2 => intro u hu; simp at hu; subst hu; rfl
      case n3 => unfold maxLen; omega
      case n4 => omega
      case n5 => simp; omega
      intro v' w7 hown' hgrow _
      have hBx : B0 ≤ (W1.alloc (.cells #[sV nm] 9)).heap.size := by simp; omega
      have P7 := hPx.out.grow hgrow (NoRow.own hOx.out (by decide))
      have T7 := hTx.out.keep hgrow (NoRow.own hOx.out (by decide)) (NoRow.own hOx.out (by decide))
      have X7 := own_keep hXx.out hgrow (NoRow.own hOx.out (by decide))
      have O7 : OwnS B0 v' (s.o ++ [nm]) w7 := by
        unfold OwnS
        rw [List.length_append, List.map_append]
        exact hown'
      have B7 : Bo B0 b w w7 := hbx.out.grown hgrow hBx (fun k hk => (World.ownsRow.lt hOx.out k hk).1)
      have hB7 : B0 ≤ w7.heap.size := Nat.le_trans hBx hgrow.size
      obtain ⟨ao, cp, hv'⟩ := own_slice hown'
      have f7 := P7.fz 1
      obtain ⟨g0, g1, g2, g3⟩ := P7.cs
      have H8 := Lib.hid (PR.setO (s := ⟨s.r, s.o, n', s.l⟩) (o' := s.o ++ [nm]) hB hB7 (fun _ => hn') (by rw [hd]; exact P7) O7 T7)
      have X8 := Lib.hid (own_keep X7 ((Ob.refl b w7).set 1 v').grown (NoRow.of P7 (by decide)))
      have B8 := Lib.hid (B7.set 1 v')
      clear P7 T7 X7 O7 B7 hown' hgrow hOx hPx hTx hXx hbx hBx
      subst hv'
      go_upto_region 3 with (fail)
      generalize w7.setCell ⟨b, 1, none⟩ (.slice ao (s.o.length + 1) cp) = W8 at *
      clear g0 g1 g2 g3 f7 d0 d1 d2 d3
      obtain ⟨_, _, _, ov8, lv8, P8, O8, _⟩ := H8.out
      obtain ⟨oa8, oc8, hov8⟩ := own_slice O8
      obtain ⟨g0, g1, g2, g3⟩ := P8.cs
      rw [hov8, List.length_append] at g1
      clear P8 O8 hov8
      by_cases h20 : 20 < s.o.length + 1
      · have h20I : (20 : Int) < (s.o.length : Int) + 1 := by omega
        have Z := Lib.hid (show RP B0 b (entS nm al s) w (gon 5) W8 from RP.er B8.out (by rw [HENT.out, if_pos h20]))
        clear H8 X8 B8 HENT h20
        go_wp2
        exact ⟨rfl, Z.out⟩
      · have h20I : ¬ (20 : Int) < (s.o.length : Int) + 1 := by omega
        have HE := Lib.hid (show entS nm al s = .ok ⟨s.r, s.o ++ [nm], n', s.l ++ [tO nm al]⟩ by rw [HENT.out, if_neg h20])
        clear HENT h20
        go_wp2_with fail
        refine (padd_any B0 b ⟨s.r, s.o ++ [nm], n', s.l⟩ (tO nm al) _ _ H8.out X8.out hl).mono ?_
        rintro e w9 ⟨b9, rfl, h9⟩
        have Z := Lib.hid (show RP B0 b (entS nm al s) w (.returned (.tuple #[])) w9 from RP.ok (B8.out.trans b9) h9 HE.out)
        clear b9 h9
        go_wp2
        go_end0
        exact Z.out
    | true =>
      rw [hg] at c2
      have hpos : (0 : Int) < s.o.length := by
        rw [hg, Bool.not_true, Bool.false_or] at hneed
        exact of_decide_eq_true hneed
      clear hneed
      go_enter Tryz.func60, Tryz.ntmps60
      go_wp2_with fail
      refine (need_ok _ (decide_eq_true (by omega)) _).mono ?_
      rintro e w1 ⟨rfl, rfl⟩
      go_upto_region 2 with (fail)
      generalize w.setCell ⟨b, 2, none⟩ (.bool true) = W1 at *
      obtain ⟨oa3, oc3, hov3⟩ := own_slice hO3
      obtain ⟨i0, hi, hz0, hz1, hz2⟩ := info_parts infoS
      have x1 := World.grownBy_alloc W1 (.cells #[sV nm] 9) none
      have hOx := Lib.hid (World.ownsRow.alloc hO3 (.cells #[sV nm] 9))
      have hPx := Lib.hid (hP3.kept ((Kept.refl W1).alloc (.cells #[sV nm] 9)))
      have hTx := Lib.hid (hT3.keep x1 NoRow.none NoRow.none)
      have hXx := Lib.hid (own_keep Gx x1 NoRow.none)
      have hbx := Lib.hid (Gb.alloc hB3 (.cells #[sV nm] 9))
      obtain ⟨d0, d1, d2, d3⟩ := hP3.cs
      subst hov3
      clear hO3 hP3 hT3 Gx Gb x1 c0 c1 c2 c3 hP
      go_wp2_with (at_builtin; refine wpList_append_own _ rfl _ _ 78 rfl B0 9 i0 _ 1 16 Tryz.underlying78 hi hz0 hz1 hz2 rfl (by decide) _ _ _ rfl hOx.out ⟨W1.heap.size, 0, none⟩ 1 1 [sV nm] rfl rfl ?n1 ?n2 ?n3 ?n4 ?n5 ?_)
      case n1 =>
        intro j u hj
        match j, hj with
        | 0, hj => simp at hj; subst hj; simp [Addr.add]
      case n2 => intro u hu; simp at hu; subst hu; rfl
      case n3 => unfold maxLen; omega
      case n4 => omega
      case n5 => simp; omega
      intro v' w7 hown' hgrow _
      have hBx : B0 ≤ (W1.alloc (.cells #[sV nm] 9)).heap.size := by simp; omega
      have P7 := hPx.out.grow hgrow (NoRow.own hOx.out (by decide))
      have T7 := hTx.out.keep hgrow (NoRow.own hOx.out (by decide)) (NoRow.own hOx.out (by decide))
      have X7 := own_keep hXx.out hgrow (NoRow.own hOx.out (by decide))
      have O7 : OwnS B0 v' (s.o ++ [nm]) w7 := by
        unfold OwnS
        rw [List.length_append, List.map_append]
        exact hown'
      have B7 : Bo B0 b w w7 := hbx.out.grown hgrow hBx (fun k hk => (World.ownsRow.lt hOx.out k hk).1)
      have hB7 : B0 ≤ w7.heap.size := Nat.le_trans hBx hgrow.size
      obtain ⟨ao, cp, hv'⟩ := own_slice hown'
      have f7 := P7.fz 1
      obtain ⟨g0, g1, g2, g3⟩ := P7.cs
      have H8 := Lib.hid (PR.setO (s := ⟨s.r, s.o, n', s.l⟩) (o' := s.o ++ [nm]) hB hB7 (fun _ => hn') (by rw [hd]; exact P7) O7 T7)
      have X8 := Lib.hid (own_keep X7 ((Ob.refl b w7).set 1 v').grown (NoRow.of P7 (by decide)))
      have B8 := Lib.hid (B7.set 1 v')
      clear P7 T7 X7 O7 B7 hown' hgrow hOx hPx hTx hXx hbx hBx
      subst hv'
      go_upto_region 3 with (fail)
      generalize w7.setCell ⟨b, 1, none⟩ (.slice ao (s.o.length + 1) cp) = W8 at *
      clear g0 g1 g2 g3 f7 d0 d1 d2 d3
      obtain ⟨_, _, _, ov8, lv8, P8, O8, _⟩ := H8.out
      obtain ⟨oa8, oc8, hov8⟩ := own_slice O8
      obtain ⟨g0, g1, g2, g3⟩ := P8.cs
      rw [hov8, List.length_append] at g1
      clear P8 O8 hov8
      by_cases h20 : 20 < s.o.length + 1
      · have h20I : (20 : Int) < (s.o.length : Int) + 1 := by omega
        have Z := Lib.hid (show RP B0 b (entS nm al s) w (gon 5) W8 from RP.er B8.out (by rw [HENT.out, if_pos h20]))
        clear H8 X8 B8 HENT h20
        go_wp2
        exact ⟨rfl, Z.out⟩
      · have h20I : ¬ (20 : Int) < (s.o.length : Int) + 1 := by omega
        have HE := Lib.hid (show entS nm al s = .ok ⟨s.r, s.o ++ [nm], n', s.l ++ [tO nm al]⟩ by rw [HENT.out, if_neg h20])
        clear HENT h20
        go_wp2_with fail
        refine (padd_any B0 b ⟨s.r, s.o ++ [nm], n', s.l⟩ (tO nm al) _ _ H8.out X8.out hl).mono ?_
        rintro e w9 ⟨b9, rfl, h9⟩
        have Z := Lib.hid (show RP B0 b (entS nm al s) w (.returned (.tuple #[])) w9 from RP.ok (B8.out.trans b9) h9 HE.out)
        clear b9 h9
        go_wp2
        go_end0
        exact Z.out
end Go.Proofs.YtflhmgnhjnaiiaaGreatDoor
