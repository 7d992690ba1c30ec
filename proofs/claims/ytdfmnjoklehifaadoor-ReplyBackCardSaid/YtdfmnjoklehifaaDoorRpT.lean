/- Package reply: what Put recovers from; how it leaves. -/
import Derived.Test.YtdfmnjoklehifaaDoorRpI
import Derived.Recover
set_option linter.unusedSimpArgs false
set_option linter.unusedVariables false
namespace Go.Proofs.YtdfmnjoklehifaaDoor.Bk.Rp
open Go.ChangeShapes Go.WideShapes Go.ChangeAt Go.RowKit Go.Shelf
theorem ta_nil (w : World) : (Instr.typeAssert .nilIface 20 61 true).run Tryd.prog w = .ok (.tuple #[.agg #[], .bool false]) w := by kernel_rfl
theorem ta_hit (v : Value) (w : World) : (Instr.typeAssert (.iface 61 v) 20 61 true).run Tryd.prog w = .ok (.tuple #[v, .bool true]) w := by kernel_rfl
set_option maxRecDepth 100000 in
theorem catch_idle (n : Nat) (w : World) :
    CallsD Tryd.prog 31 #[pV n] .returning w fun e u' w' => e = .returned (.tuple #[]) ∧ u' = .returning ∧ Kept w w' := by
  refine callsD_of_wpS Tryd.func31 rfl fun c₀ cs hu => ?_
  rw [show (#[pV n] ++ Array.replicate (Tryd.f31.ntmps - #[pV n].size) undef) = #[pV n, undef, undef, undef, undef, undef, undef, undef, undef, undef, undef, undef] from rfl]
  apply wpS_seq
  apply wpS_region
  simp [wpOpsS, go_sem, recoverD, hu, Exit.thenS, ta_nil]
  refine wpS_of_wp ?_
  go_wp2
  cases c₀
  simp_all [bodyPostS, results, Tryd.results31]
  exact (Kept.refl w).alloc _
theorem RdB.bad {b : Nat} {bad : Bool} {c : Int} {lv : Value} {r : B} {w : World} (h : RdB b bad c lv r w) : RdB b true 0 (.slice none 0 0) [] (((((((w.setCell ⟨b, 0, none⟩ (.bool true)).setCell ⟨b, 1, none⟩ (iV 0)).setCell ⟨b, 2, none⟩ (.slice none 0 0)).setCell ⟨b, 3, none⟩ (iV 0)).setCell ⟨b, 4, none⟩ (iV 0)).setCell ⟨b, 5, none⟩ (iV 0)).setCell ⟨b, 6, none⟩ (sV [])) := by
  unfold RdB at h ⊢; simp [World.setCell, Array.getElem?_modify, h]
set_option maxRecDepth 100000 in
set_option maxHeartbeats 2000000 in
theorem catch_panicking (b n : Nat) (bad : Bool) (c : Int) (lv : Value) (r : B) (w : World) (h : RdB b bad c lv r w) (hp : Bv 38 n (pV b) w) :
    CallsD Tryd.prog 31 #[pV n] (.panicking chF) w fun e u' w' => e = .returned (.tuple #[]) ∧ u' = .panicking [{ v := faultV, recovered := true }] ∧ RdB b true 0 (.slice none 0 0) [] w' ∧ Ex (fun k => k = b) w w' := by
  refine callsD_of_wpS Tryd.func31 rfl fun c₀ cs hu => ?_
  rw [show (#[pV n] ++ Array.replicate (Tryd.f31.ntmps - #[pV n].size) undef) = #[pV n, undef, undef, undef, undef, undef, undef, undef, undef, undef, undef, undef] from rfl]
  apply wpS_seq
  apply wpS_region
  simp [wpOpsS, go_sem, recoverD, hu, Exit.thenS, ta_hit]
  refine wpS_of_wp ?_
  have K1 := (Kept.refl w).alloc (.cells #[] 61)
  have R1 := h.kept K1
  have P1 := (hp.kept K1).c
  obtain ⟨c0, c1, c2, c3, c4, c5, c6⟩ := R1.cs
  have fr := R1.frz
  have Z := Lib.hid R1.bad
  have E := Lib.hid (((((((Ex.set (p := fun k => k = b) (Ex.of K1) rfl 0 (.bool true)).set rfl 1 (iV 0)).set rfl 2 (.slice none 0 0)).set rfl 3 (iV 0)).set rfl 4 (iV 0)).set rfl 5 (iV 0)).set rfl 6 (sV []))
  clear R1 K1 h hp
  go_wp2
  refine ⟨rfl, _, rfl, .tuple #[], by simp [results, Tryd.results31], rfl, rfl, ?_⟩
  exact ⟨Z.out, E.out⟩
/-! what Put holds of the world -/
/-- the rows of answers that were there stay, and what is told lies in none of them -/
def Sv (w0 : World) (bl : Nat) (W : World) : Prop := ∀ (k : Nat) (cs : Array Value), w0.heap[k]? = some (.cells cs 25 (0, 0)) → W.heap[k]? = some (.cells cs 25 (0, 0)) ∧ ∀ av, Bv 32 bl av W → av.ownBlock ≠ some k
theorem Bv.inj {t : TypeId} {b : Nat} {v v' : Value} {W : World} (h : Bv t b v W) (h' : Bv t b v' W) : v = v' := by
  unfold Bv at h h'
  rw [h] at h'
  simpa using h'
theorem Sv.ex {w0 : World} {bl : Nat} {W W' : World} {p : Nat → Prop} {av : Value} (h : Sv w0 bl W) (e : Ex p W W') (ha : Bv 32 bl av W) (hb : ¬ p bl) (hp : ∀ (k : Nat) (cs : Array Value), W.heap[k]? = some (.cells cs 25 (0, 0)) → ¬ p k) : Sv w0 bl W' := fun k cs hk => by
  obtain ⟨h1, h2⟩ := h k cs hk
  have ha' : Bv 32 bl av W' := (e.block bl ha.lt hb).trans ha
  refine ⟨(e.block k (Array.getElem?_eq_some_iff.1 h1).1 (hp k cs h1)).trans h1, fun av' hav => ?_⟩
  rw [← ha'.inj hav]
  exact h2 av ha
/-- what has been told lies in its box; below D all but the reader lies as it lay -/
structure Pf (w0 : World) (D b bl n : Nat) (acc : List Rep) (D' : Nat) (W : World) : Prop where
  a : ∃ av, Bv 32 bl av W ∧ RpU D D' av acc W
  d1 : D ≤ D'
  d2 : D' ≤ W.heap.size
  p : Bv 38 n (pV b) W
  bo : Bo D b w0 W
  r : ∃ bad c lv r0, RdB b bad c lv r0 W
  sv : Sv w0 bl W
theorem own_cc {n : Nat} {w w' : World} {B0 : Nat} {e : TypeId} {size : Nat} {v : Value} {k : Nat} {xs : List Value} (h : w.ownsRow B0 e size v k xs) (c : Cc n w w') : w'.ownsRow B0 e size v k xs :=
  ⟨h.1, h.2.imp id fun ⟨g, cap, cur, h1, h2, h3, h4⟩ => ⟨g, cap, cur, h1, h2, c.same g _ h3 rfl, h4⟩⟩
theorem RpU.cc {n B0 D : Nat} {v : Value} {l : List Rep} {w w' : World} (h : RpU B0 D v l w) (c : Cc n w w') : RpU B0 D v l w' := by
  obtain ⟨vs, hv, hR, hA⟩ := h
  exact ⟨vs, hv, own_cc hR c, fun i x u hx hu => ⟨own_cc (hA i x u hx hu).1 c, (hA i x u hx hu).2⟩⟩
theorem Bv.cc {n : Nat} {t : TypeId} {b : Nat} {v : Value} {w w' : World} (h : Bv t b v w) (c : Cc n w w') : Bv t b v w' := c.same _ _ h rfl
theorem RdB.cc {n b : Nat} {bad : Bool} {c : Int} {lv : Value} {r : B} {w w' : World} (h : RdB b bad c lv r w) (k : Cc n w w') : RdB b bad c lv r w' := k.same _ _ h rfl
theorem Bo.cc {n D b : Nat} {w x y : World} (h : Bo D b w x) (c : Cc n x y) (hn : D ≤ n) : Bo D b w y :=
  ⟨c.os.trans h.os, c.tape.trans h.tape, c.output.trans h.output, Nat.le_trans h.size c.size, fun k hk hb => (c.low k (by omega)).trans (h.block k hk hb)⟩
theorem Pf.cc {m : Nat} {w0 : World} {D b bl n : Nat} {acc : List Rep} {D' : Nat} {W W' : World} (h : Pf w0 D b bl n acc D' W) (c : Cc m W W') (hm : D ≤ m) : Pf w0 D b bl n acc D' W' := by
  obtain ⟨⟨av, h1, h2⟩, h3, h4, h5, h6, ⟨bad, c1, lv, r0, h7⟩, h8⟩ := h
  refine ⟨⟨av, h1.cc c, h2.cc c⟩, h3, Nat.le_trans h4 c.size, h5.cc c, h6.cc c hm, ⟨bad, c1, lv, r0, h7.cc c⟩, fun k cs hk => ?_⟩
  obtain ⟨g1, g2⟩ := h8 k cs hk
  refine ⟨c.same _ _ g1 rfl, fun av' hav => ?_⟩
  rw [← (h1.cc c).inj hav]
  exact g2 av h1
theorem EX.cc {m : Nat} {w w' : World} (h : EX w) (c : Cc m w w') (hm : 8 ≤ m) : EX w' := by
  have k : Bo 8 8 w w' := ⟨c.os, c.tape, c.output, c.size, fun k hk _ => c.low k (by omega)⟩
  exact h.bo k (Nat.le_refl _) (Nat.le_refl _)
/-- how Put ends -/
def PutP (D b : Nat) (d : Option St × List Rep) (w : World) (e : Ending) (w' : World) : Prop :=
  ∃ v D', e = .returned v ∧ D ≤ D' ∧ RpU D D' v d.2 w' ∧ RS D' b d.1 w' ∧ Bo D b w w' ∧ ∀ (k : Nat) (cs : Array Value), w.heap[k]? = some (.cells cs 25 (0, 0)) → w'.heap[k]? = some (.cells cs 25 (0, 0))
set_option maxRecDepth 100000 in
theorem put_results (bl : Nat) (tmps : Array Value) (W : World) (av : Value) (ho : av.oneCell' = true) (h4 : tmps[4]? = some (pV bl)) (h : W.cell? ⟨bl, 0, none⟩ = some av) : (results Tryd.f18 tmps).run Tryd.prog W = .ok av W := by
  cases av <;> simp [Value.oneCell'] at ho <;> simp [results, Tryd.results18, go_sem, *]
theorem RpU.one {B0 D : Nat} {v : Value} {l : List Rep} {w : World} (h : RpU B0 D v l w) : v.oneCell' = true := by
  obtain ⟨a, c, rfl⟩ := h.slice
  rfl
theorem RS.cc {m D b : Nat} {s : Option St} {W W' : World} (h : RS D b s W) (c : Cc m W W') : RS D b s W' := by
  obtain ⟨g1, g2, g3⟩ := h
  refine ⟨g1, Nat.le_trans g2 c.size, ?_⟩
  cases s with
  | none => exact RdB.cc g3 c
  | some s =>
    obtain ⟨lv, q1, q2⟩ := g3
    exact ⟨lv, q1.cc c, own_cc q2 c⟩
/-- on the way out, all well -/
theorem put_out {w0 : World} {D b bl n d : Nat} {x : Option St × List Rep} {D' : Nat} {W : World} (P : Pf w0 D b bl n x.2 D' W) (hS : RS D' b x.1 W) (hd : W.heap[d]? = some (.deferred (some []))) (hD : D ≤ d) (tmps : Array Value) (h4 : tmps[4]? = some (pV bl)) :
    LeavesK Tryd.prog Tryd.f18 tmps (PutP D b x w0) [{ target := .collected d, args := #[] }, { target := .fn (.func 31) #[pV n], args := #[] }] .returning W := by
  have ht := run_takeDeferred (P := Tryd.prog) hd
  have c1 := Cc.put (n := D) (.deferred none) hd rfl hD
  refine ⟨by simp, Or.inl ⟨d, _, rfl, ht, ?_⟩⟩
  have P1 := P.cc c1 (Nat.le_refl _)
  have S1 := hS.cc c1
  generalize W.putObj d (.deferred none) = W1 at *
  refine ⟨by simp, Or.inr ⟨.func 31, #[pV n], 31, #[pV n], rfl, by simp [go_sem], (catch_idle n W1).mono ?_⟩⟩
  rintro e u' w2 ⟨rfl, rfl, k2⟩
  show Leaves Tryd.prog Tryd.f18 tmps (PutP D b x w0) [] .returning w2
  have c2 := Cc.of k2 (Nat.le_refl _)
  have P2 := P1.cc c2 (Nat.le_trans P1.d1 P1.d2)
  obtain ⟨av, a1, a2⟩ := P2.a
  exact ⟨av, put_results bl tmps w2 av a2.one h4 a1.c, av, D', rfl, P2.d1, a2, S1.cc c2, P2.bo, fun k cs hk => (P2.sv k cs hk).1⟩
/-- on the way out, what can't be having come -/
theorem put_fell {w0 : World} {D b bl n d : Nat} {acc : List Rep} {D' : Nat} {W : World} (P : Pf w0 D b bl n acc D' W) (hb : b < D) (hd : W.heap[d]? = some (.deferred (some []))) (hD : D ≤ d) (tmps : Array Value) (h4 : tmps[4]? = some (pV bl)) :
    LeavesK Tryd.prog Tryd.f18 tmps (PutP D b (none, acc) w0) [{ target := .collected d, args := #[] }, { target := .fn (.func 31) #[pV n], args := #[] }] (.panicking chF) W := by
  have ht := run_takeDeferred (P := Tryd.prog) hd
  have c1 := Cc.put (n := D) (.deferred none) hd rfl hD
  refine ⟨by simp, Or.inl ⟨d, _, rfl, ht, ?_⟩⟩
  have P1 := P.cc c1 (Nat.le_refl _)
  generalize W.putObj d (.deferred none) = W1 at *
  obtain ⟨bad, c, lv, r0, hr⟩ := P1.r
  refine ⟨by simp, Or.inr ⟨.func 31, #[pV n], 31, #[pV n], rfl, by simp [go_sem], (catch_panicking b n bad c lv r0 W1 hr P1.p).mono ?_⟩⟩
  rintro e u' w2 ⟨rfl, rfl, h1, h2⟩
  show Leaves Tryd.prog Tryd.f18 tmps (PutP D b (none, acc) w0) [] .returning w2
  obtain ⟨av, a1, a2⟩ := P1.a
  have hblb : bl ≠ b := fun e => by
    subst e
    have a1' := a1
    unfold Bv at a1'
    unfold RdB at hr
    rw [hr] at a1'
    simp at a1'
  have a3 : Bv 32 bl av w2 := (h2.block bl a1.lt hblb).trans a1
  have a4 : RpU D D' av acc w2 := a2.ex h2 (fun g hg c' hc => by
    subst hg
    unfold RdB at hr
    rw [hr] at hc
    simp at hc) (fun g hg => Or.inr fun c' hc => by
    subst hg
    unfold RdB at hr
    rw [hr] at hc
    simp at hc)
  exact ⟨av, put_results bl tmps w2 av a4.one h4 a3.c, av, D', rfl, P1.d1, a4, ⟨Nat.lt_of_lt_of_le hb P1.d1, Nat.le_trans P1.d2 h2.size, h1⟩, P1.bo.trans (h2.bo (Nat.le_trans P1.d1 P1.d2) (fun k hk => Or.inl hk)), fun k cs hk => ((P1.sv.ex h2 a1 hblb (fun g c' hc q => by
    subst q
    unfold RdB at hr
    rw [hr] at hc
    simp at hc)) k cs hk).1⟩
end Go.Proofs.YtdfmnjoklehifaaDoor.Bk.Rp
