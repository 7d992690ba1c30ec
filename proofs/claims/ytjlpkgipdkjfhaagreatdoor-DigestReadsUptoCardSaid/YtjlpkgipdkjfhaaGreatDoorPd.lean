import Derived.Test.YtjlpkgipdkjfhaaGreatDoorPc
import Derived.Test.YtjlpkgipdkjfhaaGreatDoorEc
import Derived.ScopeJumps
import Derived.WalkMore
import Derived.Test.YtjlpkgipdkjfhaaGreatDoorPa
set_option linter.unusedVariables false
set_option linter.unusedSimpArgs false
namespace Go.Proofs.YtjlpkgipdkjfhaaGreatDoor.Pl
open Go.ChangeShapes Go.WideShapes Go.ChangeAt Go.RowKit
open En
def enM (b : B) (c : Nat) : MapEntry := { key := .string ⟨b.toArray⟩, val := .agg #[], born := c }
theorem run_in0 (w : World) (es : Array MapEntry) (c : Nat) (b : B) (hf : Instr.findNow .string (.string ⟨b.toArray⟩) es.toList 0 = some none) :
    (Instr.mapUpdate 194 (.map (some w.heap.size)) (.string ⟨b.toArray⟩) (.agg #[])).run Tryz.prog (w.alloc (.map es c)) = .ok () (w.alloc (.map (es.push (enM b c)) (c + 1))) := by
  have hb := (MapKept.heap_alloc w (.map es c)).1
  unfold Instr.mapUpdate
  simp only [Sem.run_bind, run_underlying Tryz.underlying194, Result.andThen, MapKept.run_getObj_map hb]
  rw [MapKept.run_checkKey Tryz.underlying9 (by simp [MapKept.IsKey]) false 9999]
  simp only [MapKept.run_findKey Tryz.underlying9 hf]
  rw [MapKept.run_setObj_map _ hb]
  congr 1
  show ({ w with heap := (w.heap.push _).setIfInBounds w.heap.size _ } : World) = { w with heap := w.heap.push _ }
  rw [set_push]; rfl
def enL : Nat → List B → List MapEntry
  | _, [] => []
  | c, b :: r => enM b c :: enL (c + 1) r
theorem find_enL (x : B) : ∀ (l : List B) (c i : Nat), ∃ r, Instr.findNow .string (.string ⟨x.toArray⟩) (enL c l) i = some r ∧ r.map (·.2) = if l.contains x = true then some (Value.agg #[]) else none
  | [], c, i => ⟨none, rfl, rfl⟩
  | b :: l, c, i => by
    obtain ⟨r, h1, h2⟩ := find_enL x l (c + 1) (i + 1)
    unfold enL enM
    rw [Instr.findNow, Instr.sameNow]
    simp only [ba_beq]
    by_cases e : x = b
    · subst e
      refine ⟨some (i, .agg #[]), by simp only [decide_true], by simp⟩
    · refine ⟨r, by simp only [decide_eq_false e]; exact h1, ?_⟩
      rw [h2]
      have : (b :: l).contains x = l.contains x := by
        rw [List.contains_cons, beq_eq_false_iff_ne.2 e, Bool.false_or]
      rw [this]
def es14 : Array MapEntry := (enL 0 brkL).toArray
theorem look14 (w : World) (k : Nat) (hb : w.heap[k]? = some (.map es14 14)) (b : B) :
    (Instr.lookup 194 (.map (some k)) (.string ⟨b.toArray⟩) true).run Tryz.prog w = .ok (.tuple #[.agg #[], .bool (brk b)]) w := by
  obtain ⟨r, h1, h2⟩ := find_enL b brkL 0 0
  unfold Instr.lookup
  simp only [Sem.run_bind, run_underlying Tryz.underlying194, Result.andThen, MapKept.run_getObj_map hb, Sem.run_pure]
  rw [MapKept.run_checkKey Tryz.underlying9 (by simp [MapKept.IsKey]) _ 9999]
  simp only [MapKept.run_findKey Tryz.underlying9 (show Instr.findNow .string (.string ⟨b.toArray⟩) es14.toList 0 = some r from h1)]
  unfold brk
  cases hn : brkL.contains b with
  | false =>
    rw [hn] at h2
    cases r with
    | none => simp [Tryz.zeroValue184]
    | some p => simp at h2
  | true =>
    rw [hn] at h2
    cases r with
    | none => simp at h2
    | some p =>
      obtain ⟨i, v⟩ := p
      simp at h2
      subst h2
      simp
set_option maxRecDepth 100000 in
theorem breaking_any (w : World) : Calls Tryz.prog 213 #[] w fun e w' => e = .returned (.map (some w.heap.size)) ∧ w' = w.alloc (.map es14 14) := by
  have hmm := @run_makeMap Tryz.prog
  obtain ⟨E1, e1⟩ : ∃ E, E = ((#[] : Array MapEntry)).push (enM [112] 0) := ⟨_, rfl⟩
  have h1 := run_in0 w (#[] : Array MapEntry) 0 [112] (by rfl)
  rw [← e1] at h1
  obtain ⟨E2, e2⟩ : ∃ E, E = (E1).push (enM [98, 114] 1) := ⟨_, rfl⟩
  have h2 := run_in0 w E1 1 [98, 114] (by subst e1; rfl)
  rw [← e2] at h2
  obtain ⟨E3, e3⟩ : ∃ E, E = (E2).push (enM [100, 105, 118] 2) := ⟨_, rfl⟩
  have h3 := run_in0 w E2 2 [100, 105, 118] (by subst e2 e1; rfl)
  rw [← e3] at h3
  obtain ⟨E4, e4⟩ : ∃ E, E = (E3).push (enM [108, 105] 3) := ⟨_, rfl⟩
  have h4 := run_in0 w E3 3 [108, 105] (by subst e3 e2 e1; rfl)
  rw [← e4] at h4
  obtain ⟨E5, e5⟩ : ∃ E, E = (E4).push (enM [116, 114] 4) := ⟨_, rfl⟩
  have h5 := run_in0 w E4 4 [116, 114] (by subst e4 e3 e2 e1; rfl)
  rw [← e5] at h5
  obtain ⟨E6, e6⟩ : ∃ E, E = (E5).push (enM [117, 108] 5) := ⟨_, rfl⟩
  have h6 := run_in0 w E5 5 [117, 108] (by subst e5 e4 e3 e2 e1; rfl)
  rw [← e6] at h6
  obtain ⟨E7, e7⟩ : ∃ E, E = (E6).push (enM [111, 108] 6) := ⟨_, rfl⟩
  have h7 := run_in0 w E6 6 [111, 108] (by subst e6 e5 e4 e3 e2 e1; rfl)
  rw [← e7] at h7
  obtain ⟨E8, e8⟩ : ∃ E, E = (E7).push (enM [116, 97, 98, 108, 101] 7) := ⟨_, rfl⟩
  have h8 := run_in0 w E7 7 [116, 97, 98, 108, 101] (by subst e7 e6 e5 e4 e3 e2 e1; rfl)
  rw [← e8] at h8
  obtain ⟨E9, e9⟩ : ∃ E, E = (E8).push (enM [104, 49] 8) := ⟨_, rfl⟩
  have h9 := run_in0 w E8 8 [104, 49] (by subst e8 e7 e6 e5 e4 e3 e2 e1; rfl)
  rw [← e9] at h9
  obtain ⟨E10, e10⟩ : ∃ E, E = (E9).push (enM [104, 50] 9) := ⟨_, rfl⟩
  have h10 := run_in0 w E9 9 [104, 50] (by subst e9 e8 e7 e6 e5 e4 e3 e2 e1; rfl)
  rw [← e10] at h10
  obtain ⟨E11, e11⟩ : ∃ E, E = (E10).push (enM [104, 51] 10) := ⟨_, rfl⟩
  have h11 := run_in0 w E10 10 [104, 51] (by subst e10 e9 e8 e7 e6 e5 e4 e3 e2 e1; rfl)
  rw [← e11] at h11
  obtain ⟨E12, e12⟩ : ∃ E, E = (E11).push (enM [104, 52] 11) := ⟨_, rfl⟩
  have h12 := run_in0 w E11 11 [104, 52] (by subst e11 e10 e9 e8 e7 e6 e5 e4 e3 e2 e1; rfl)
  rw [← e12] at h12
  obtain ⟨E13, e13⟩ : ∃ E, E = (E12).push (enM [104, 53] 12) := ⟨_, rfl⟩
  have h13 := run_in0 w E12 12 [104, 53] (by subst e12 e11 e10 e9 e8 e7 e6 e5 e4 e3 e2 e1; rfl)
  rw [← e13] at h13
  obtain ⟨E14, e14⟩ : ∃ E, E = (E13).push (enM [104, 54] 13) := ⟨_, rfl⟩
  have h14 := run_in0 w E13 13 [104, 54] (by subst e13 e12 e11 e10 e9 e8 e7 e6 e5 e4 e3 e2 e1; rfl)
  rw [← e14] at h14
  have HE := Lib.hid (show E14 = es14 by subst e14 e13 e12 e11 e10 e9 e8 e7 e6 e5 e4 e3 e2 e1; rfl)
  clear e1 e2 e3 e4 e5 e6 e7 e8 e9 e10 e11 e12 e13 e14
  go_enter Tryz.func213, Tryz.ntmps213
  go_wp2
  go_ret
  exact ⟨rfl, by rw [HE.out]⟩
theorem wp_scope_label {P : Program} {c r : Code} {Q : Exit → Act → World → Prop} {a : Act} {w : World} (l : Nat) (J : Act → World → Prop) (μ : Act → World → Nat) (hf : findLabel c l = some (Code.skip.seq r))
    (pass : ∀ a w, J a w → r.wp P (Exit.jump l (fun a' w' => J a' w' ∧ μ a' w' < μ a w) Q) a w)
    (first : (∀ a w, J a w → r.wp P (Exit.jump l J Q) a w) → c.wp P (Exit.jump l J Q) a w) : (Code.scope c).wp P Q a w :=
  wp_scope_jumps l J μ hf (first fun a w h => wp_mono (pass a w h) fun e a' w' hq => by
    cases e with
    | goto l' => exact ⟨hq.1, hq.2.1⟩
    | _ => exact hq) fun a w h => wp_seq (wp_skip (pass a w h))
theorem kept_below {w x y : World} (h : Kept w x) (k : Below w.heap.size x y) : Kept w y :=
  ⟨k.os.trans h.os, k.output.trans h.output, Nat.le_trans h.size k.size, fun j hj => (k.block j hj).trans (h.block j hj), k.tape.trans h.tape⟩
theorem bd_row {B b : Nat} {l : List UInt8} {W W' : World} {row : Option Nat} (h : Bd B b l W) (hg : W.grownBy W' row) (h1 : ∀ r, row = some r → ∀ c fz, W.heap[r]? ≠ some (.cells c 5 fz)) (h2 : ∀ r, row = some r → ∀ c fz, W.heap[r]? ≠ some (.cells c 97 fz)) : Bd B b l W' := by
  have key : ∀ p, Lib.BuilderAtF 97 5 B b p (Lib.byteCells l) W → Lib.BuilderAtF 97 5 B b p (Lib.byteCells l) W' := fun p q => by
    obtain ⟨hB, v, hb, hown, hne⟩ := q
    refine ⟨hB, v, (hg.block b (Array.getElem?_eq_some_iff.1 hb).1 (fun e => h2 b e.symm _ _ hb)).trans hb, World.ownsRowF.kept hown hg ?_, hne⟩
    cases hv : v.ownBlock with
    | none => exact Or.inl rfl
    | some g =>
      refine Or.inr (fun e => ?_)
      obtain ⟨c, fz, hc⟩ := Lib.ownsRowF_kind hown g hv
      exact h1 g e.symm _ _ hc
  exact h.elim (fun q => .inl (key _ q)) (fun q => .inr (key _ q))
theorem owns_row {w : World} {B0 : Nat} {v : Value} {ls : List B} (h : OwnS B0 v ls w) (t : TypeId) (ht : t ≠ 9) : ∀ r, v.ownBlock = some r → ∀ c fz, w.heap[r]? ≠ some (.cells c t fz) := fun r hr c fz hc => by
  obtain ⟨c', hc'⟩ := own_kind h r hr
  rw [hc'] at hc
  cases hc
  exact ht rfl
theorem owns_others {w w' : World} {B0 b : Nat} {v : Value} {ls : List B} (h : OwnS B0 v ls w) (o : Lib.OthersKept 5 (some b) w w') (hb : ∃ cs, w.heap[b]? = some (.cells cs 97 (0, 0))) : OwnS B0 v ls w' := by
  unfold OwnS at h ⊢
  refine ⟨h.1, ?_⟩
  rcases h.2 with h2 | ⟨g, cap, cur, h1, h2, h3, h4⟩
  · exact Or.inl h2
  · refine Or.inr ⟨g, cap, cur, h1, h2, o g _ h3 (fun e => ?_) (fun c fz e => by cases e), h4⟩
    cases e
    obtain ⟨cs, hb⟩ := hb
    rw [hb] at h3
    cases h3
theorem bd_blk {B b : Nat} {l : List UInt8} {W : World} (h : Bd B b l W) : ∃ cs, W.heap[b]? = some (.cells cs 97 (0, 0)) := by
  rcases h with q | q
  · obtain ⟨_, v, hb, _⟩ := q; exact ⟨_, hb⟩
  · obtain ⟨_, v, hb, _⟩ := q; exact ⟨_, hb⟩
set_option maxRecDepth 100000 in
theorem reset_any (Bz b : Nat) (l : List UInt8) (w : World) (h : Bd Bz b l w) (hB : Bz ≤ w.heap.size) : Calls Tryz.prog 215 #[.pointer (some ⟨b, 0, none⟩)] w fun e w' => e = .returned (.tuple #[]) ∧ Wrote Bz b [] w w' := by
  have hBb : Bz ≤ b := by rcases h with q | q <;> exact q.1
  obtain ⟨cs, hb, c0, c1, hsz⟩ : ∃ cs, w.heap[b]? = some (.cells cs 97 (0, 0)) ∧ (∃ v0, w.cell? ⟨b, 0, none⟩ = some v0) ∧ (∃ v1, w.cell? ⟨b, 1, none⟩ = some v1) ∧ cs.size = 2 := by
    rcases h with q | q
    · obtain ⟨_, v, hb, _⟩ := q; exact ⟨_, hb, ⟨_, cell_at hb rfl⟩, ⟨_, cell_at hb rfl⟩, rfl⟩
    · obtain ⟨_, v, hb, _⟩ := q; exact ⟨_, hb, ⟨_, cell_at hb rfl⟩, ⟨_, cell_at hb rfl⟩, rfl⟩
  obtain ⟨v0, c0⟩ := c0
  obtain ⟨v1, c1⟩ := c1
  have f0 : w.frozen? ⟨b, 0, none⟩ = false := by simp [World.frozen?, hb]
  have f1 : w.frozen? ⟨b, 1, none⟩ = false := by simp [World.frozen?, hb]
  have HZ : Wrote Bz b [] w ((w.setCell ⟨b, 0, none⟩ (.pointer none)).setCell ⟨b, 1, none⟩ (.slice none 0 0)) := by
    refine ⟨.inl ⟨hBb, .slice none 0 0, ?_, World.ownsRowF_nil _ _ _ _, by simp [Value.ownBlock]⟩, ((Below.refl Bz w).setCell (p := ⟨b, 0, none⟩) hBb _).setCell (p := ⟨b, 1, none⟩) hBb _, ((Lib.OthersKept.refl _ _ w).setCell ⟨b, 0, none⟩ rfl _).setCell ⟨b, 1, none⟩ rfl _⟩
    obtain ⟨l0⟩ := cs
    match l0, hsz with
    | [a0, a1], _ => simp [World.setCell, Array.getElem?_modify, hb]
  have HZ := Lib.hid HZ
  clear h hsz
  go_enter Tryz.func215, Tryz.ntmps215
  go_wp2
  go_end0
  exact ⟨rfl, HZ.out⟩
structure PcS (w : World) (cur : B) (done : List B) (v : Value) (W : World) : Prop where
  k : Kept w W
  own : OwnS w.heap.size v done W
  bd : Bd w.heap.size (w.heap.size + 1) cur W
  mp : W.heap[w.heap.size]? = some (.map es14 14)
structure PcI (l : B) (w : World) (rest cur : B) (done : List B) (v : Value) (W : World) : Prop where
  s : PcS w cur done v W
  eq : pcs l = done ++ pc cur rest
  l1 : cur.length + rest.length ≤ l.length
  l2 : done.length + rest.length ≤ l.length
theorem PcS.lt {w W : World} {cur : B} {done : List B} {v : Value} (h : PcS w cur done v W) : w.heap.size < W.heap.size := (Array.getElem?_eq_some_iff.1 h.mp).1
theorem PcS.kept {w W W' : World} {cur : B} {done : List B} {v : Value} (h : PcS w cur done v W) (k : Kept W W') : PcS w cur done v W' :=
  ⟨h.k.trans k, OwnS.kept h.own k, h.bd.kept k, (k.block _ h.lt).trans h.mp⟩
theorem PcS.wrote {w W W' : World} {cur cur' : B} {done : List B} {v : Value} (h : PcS w cur done v W) (q : Wrote w.heap.size (w.heap.size + 1) cur' W W') : PcS w cur' done v W' :=
  ⟨kept_below h.k q.below, owns_others h.own q.others (bd_blk h.bd), q.bd, q.others _ _ h.mp (fun e => by injection e with e; omega) (fun c fz e => by cases e)⟩
theorem PcS.push {w W W' : World} {cur : B} {done : List B} {v v' : Value} {t : B} (h : PcS w cur done v W) (ho : OwnS w.heap.size v' (done ++ [t]) W') (hg : W.grownBy W' v.ownBlock) : PcS w cur (done ++ [t]) v' W' :=
  ⟨kept_row h.k hg (fun g hg => (World.ownsRow.lt h.own g hg).1), ho, bd_row h.bd hg (owns_row h.own _ (by decide)) (owns_row h.own _ (by decide)),
    (hg.block _ h.lt (fun e => by
      obtain ⟨c, hc⟩ := own_kind h.own _ e.symm
      rw [h.mp] at hc; cases hc)).trans h.mp⟩
theorem Mb.others {c b : Nat} {n : B} {cl : Bool} {W W' : World} (h : Mb c n cl W) (o : Lib.OthersKept 5 (some b) W W') (hne : c ≠ b) : Mb c n cl W' :=
  o _ _ h (fun e => by injection e with e; exact hne e) (fun c fz e => by cases e)
theorem Mb.push {c Bz : Nat} {n : B} {cl : Bool} {v : Value} {ls : List B} {W W' : World} (h : Mb c n cl W) (ho : OwnS Bz v ls W) (hg : W.grownBy W' v.ownBlock) : Mb c n cl W' :=
  (hg.block _ h.lt (fun e => owns_row ho 197 (by decide) c e.symm _ _ h)).trans h
theorem PcS.lt2 {w W : World} {cur : B} {done : List B} {v : Value} (h : PcS w cur done v W) : w.heap.size + 1 < W.heap.size := by
  obtain ⟨cs, hb⟩ := bd_blk h.bd
  exact (Array.getElem?_eq_some_iff.1 hb).1
theorem jump_ret {l : Nat} {J : Act → World → Prop} {Q : Exit → Act → World → Prop} {a : Act} {w : World} : Exit.jump l J Q .ret a w = Q .ret a w := rfl
theorem cm_none {l : B} (h : fm l = none) : cmV l = .tuple #[.string ⟨l.toArray⟩, mkV [] false, .string ⟨#[]⟩, .bool false] := by unfold cmV; rw [h]
theorem cm_some {l a r : B} (h : fm l = some (a, r)) : cmV l = .tuple #[.string ⟨a.toArray⟩, mkV (nam r) (clo r), .string ⟨(aft r).toArray⟩, .bool true] := by unfold cmV; rw [h]
def msr (a : Act) : Nat := match a.tmps[0]? with | some (Value.string s) => s.size | _ => 0
set_option maxRecDepth 100000 in
set_option maxHeartbeats 4000000 in
theorem pieces_any (l : B) (w : World) (hE : EnvP w) (hl : l.length ≤ 2000000) : Calls Tryz.prog 162 #[.string ⟨l.toArray⟩] w fun e w' => ∃ v, e = .returned v ∧ OwnS w.heap.size v (pcs l) w' ∧ Kept w w' := by
  have HE := Lib.hid hE
  clear hE
  go_enter Tryz.func162, Tryz.ntmps162
  go_wp2_with fail
  refine wp_scope_label 0 (fun a W => ∃ (rest cur : B) (done : List B) (v x1 x2 x6 x7 x8 x9 x10 x11 x12 x13 x14 x15 x16 x17 x18 x19 x20 x21 x22 x23 x24 x25 x26 x27 x28 x29 x30 x31 x32 x33 x34 x35 x36 x37 x38 x39 x40 x41 x42 x43 : Value), a = { tmps := #[.string ⟨(rest).toArray⟩, x1, x2, .map (some w.heap.size), v, .pointer (some ⟨w.heap.size + 1, 0, none⟩), x6, x7, x8, x9, x10, x11, x12, x13, x14, x15, x16, x17, x18, x19, x20, x21, x22, x23, x24, x25, x26, x27, x28, x29, x30, x31, x32, x33, x34, x35, x36, x37, x38, x39, x40, x41, x42, x43], defers := [] } ∧ PcI l w rest cur done v W) (fun a _ => msr a) rfl ?pass ?first
  case first =>
    intro hp
    have hpp := Lib.hid hp
    clear hp
    go_wp2_with fail
    refine (breaking_any _).mono ?_
    rintro e w1 ⟨rfl, rfl⟩
    have M0 := World.alloc_heap_new w (.map es14 14)
    have K0 := (Kept.refl w).alloc (.map es14 14)
    have s0 : (w.alloc (.map es14 14)).heap.size = w.heap.size + 1 := by simp
    generalize w.alloc (.map es14 14) = x0 at *
    have B0 := (bd_new x0)
    have M1 := (((Kept.refl x0).alloc (.cells #[.pointer none, .slice none 0 0] 97)).block w.heap.size (by omega)).trans M0
    have K1 := K0.alloc (.cells #[.pointer none, .slice none 0 0] 97)
    have B1 : Bd w.heap.size (w.heap.size + 1) [] (x0.alloc (.cells #[.pointer none, .slice none 0 0] 97)) := by
      rw [s0] at B0
      rcases B0 with q | q
      · obtain ⟨_, v, hb, hown, hne⟩ := q
        exact .inl ⟨by omega, .slice none 0 0, by rw [← s0]; exact World.alloc_heap_new x0 _, World.ownsRowF_nil _ _ _ _, by simp [Value.ownBlock]⟩
      · exact .inl ⟨by omega, .slice none 0 0, by rw [← s0]; exact World.alloc_heap_new x0 _, World.ownsRowF_nil _ _ _ _, by simp [Value.ownBlock]⟩
    have P0 := Lib.hid (show PcI l w l [] [] (.slice none 0 0) (x0.alloc (.cells #[.pointer none, .slice none 0 0] 97)) from ⟨⟨K1, World.ownsRow_nil _ _ _ _, B1, M1⟩, rfl, by simp, by simp⟩)
    clear M0 K0 B0 M1 K1 B1
    go_wp2_with fail
    go_step3
    rename_i K hK
    refine hK _ _ (hpp.out _ _ ⟨l, [], [], .slice none 0 0, _, _, _, _, _, _, _, _, _, _, _, _, _, _, _, _, _, _, _, _, _, _, _, _, _, _, _, _, _, _, _, _, _, _, _, _, _, _, _, _, rfl, P0.out⟩)
  case pass =>
    rintro a W ⟨rest, cur, done, v, x1, x2, x6, x7, x8, x9, x10, x11, x12, x13, x14, x15, x16, x17, x18, x19, x20, x21, x22, x23, x24, x25, x26, x27, x28, x29, x30, x31, x32, x33, x34, x35, x36, x37, x38, x39, x40, x41, x42, x43, rfl, HP⟩
    have hl1 := HP.l1
    have hl2 := HP.l2
    have H := Lib.hid HP.s
    cases hf : fm rest with
    | none =>
      have HV := Lib.hid (show ∀ w, EnvP w → Calls Tryz.prog 214 #[.string ⟨rest.toArray⟩] w fun e w' => e = .returned (.tuple #[.string ⟨rest.toArray⟩, mkV [] false, .string ⟨#[]⟩, .bool false]) ∧ Kept w w' from fun w hE => by
        have := cutMark_any rest w hE (by omega)
        rw [cm_none hf] at this; exact this)
      have HQ := Lib.hid (show pcs l = done ++ [cur ++ rest] by rw [HP.eq, pc_fm, hf])
      clear HP hf
      go_wp2_with fail
      refine (HV.out _ (HE.out.kept H.out.k)).mono ?_
      rintro e w1 ⟨rfl, k1⟩
      have H1 := H.out.kept k1
      have hne : w.heap.size + 1 < w1.heap.size := H1.lt2
      have M1 := Lib.hid (Mb.new w1 [] false)
      have K1 := (Kept.refl w1).alloc (.cells #[.string ⟨([] : B).toArray⟩, .bool false] 197)
      have H2 := Lib.hid (H1.kept K1)
      have ls2 : w1.heap.size < (w1.alloc (.cells #[.string ⟨([] : B).toArray⟩, .bool false] 197)).heap.size := M1.out.lt
      clear H k1 H1 K1
      go_upto_region 5 with (fail)
      generalize w1.alloc (.cells #[.string ⟨#[]⟩, .bool false] 197) = x2 at *
      go_wp2_with fail
      refine (wstr_any _ _ cur rest _ H2.out.bd (by omega) H2.out.k.size).mono ?_
      rintro e w3 ⟨rfl, q3⟩
      have H3 := Lib.hid (H2.out.wrote q3)
      clear q3 M1 ls2
      go_wp2_with fail
      refine (Tryz.Builder_String_any_k _ _ _ _ H3.out.bd H3.out.k.size).mono ?_
      rintro e w4 ⟨rfl, q4, b4, o4⟩
      have H4 := H3.out.wrote ⟨q4, b4, o4⟩
      have hal := (Kept.refl w4).alloc (.cells #[sV (cur ++ rest)] 9)
      have H5 := Lib.hid (H4.kept hal)
      have hc5 := (Kept.refl (w4.alloc (.cells #[sV (cur ++ rest)] 9))).new 0 (v := sV (cur ++ rest)) rfl
      clear q4 b4 o4 H3 H4 hal
      have hB5 := H5.out.k.size
      go_wp2_with (at_builtin; refine wpList_pushS rfl _ _ rfl w.heap.size v done (cur ++ rest) w4.heap.size rfl H5.out.own rfl hc5 (by omega) hB5 ?_)
      intro v' z hz hgz
      have H6 := Lib.hid (H5.out.push hz hgz)
      clear hz hgz hc5 hB5 H5
      obtain ⟨ao, cp, hvv⟩ := own_slice H6.out.own
      rw [show (done ++ [cur ++ rest]).length = done.length + 1 by simp] at hvv
      subst hvv
      go_wp2
      rw [jump_ret]
      go_ret
      exact ⟨_, rfl, by rw [HQ.out]; exact H6.out.own, H6.out.k⟩
    | some p =>
      obtain ⟨a0, r⟩ := p
      have HV := Lib.hid (show ∀ w, EnvP w → Calls Tryz.prog 214 #[.string ⟨rest.toArray⟩] w fun e w' => e = .returned (.tuple #[.string ⟨a0.toArray⟩, mkV (nam r) (clo r), .string ⟨(aft r).toArray⟩, .bool true]) ∧ Kept w w' from fun w hE => by
        have := cutMark_any rest w hE (by omega)
        rw [cm_some hf] at this; exact this)
      have HQ := Lib.hid (show pcs l = done ++ (if brk (nam r) = true then (cur ++ a0) :: pc [] (rst r) else pc (cur ++ a0) (rst r)) by rw [HP.eq, pc_fm, hf])
      obtain ⟨hr1, -, -⟩ := fm_len _ _ _ hf
      have hr2 := rst_len r
      have hr3 := aft_len r
      have HK := Lib.hid (fun w hE => skipHidden_any (nam r) (clo r) (aft r) w hE (by omega))
      rw [← rst_hsk] at HK
      clear HP hf
      generalize nam r = nm at *
      generalize clo r = cl at *
      generalize aft r = af at *
      generalize rst r = rs at *
      go_wp2_with fail
      refine (HV.out _ (HE.out.kept H.out.k)).mono ?_
      rintro e w1 ⟨rfl, k1⟩
      have H1 := H.out.kept k1
      have hne : w.heap.size + 1 < w1.heap.size := H1.lt2
      have M1 := Lib.hid (Mb.new w1 nm cl)
      have K1 := (Kept.refl w1).alloc (.cells #[.string ⟨(nm : B).toArray⟩, .bool cl] 197)
      have H2 := Lib.hid (H1.kept K1)
      have ls2 : w1.heap.size < (w1.alloc (.cells #[.string ⟨(nm : B).toArray⟩, .bool cl] 197)).heap.size := M1.out.lt
      clear H k1 H1 K1
      go_upto_region 5 with (fail)
      generalize w1.alloc (.cells #[.string ⟨nm.toArray⟩, .bool cl] 197) = x2 at *
      obtain ⟨c0, c1⟩ := M1.out.cells
      go_wp2_with fail
      refine (wstr_any _ _ cur a0 _ H2.out.bd (by omega) H2.out.k.size).mono ?_
      rintro e w3 ⟨rfl, q3⟩
      have H3 := Lib.hid (H2.out.wrote q3)
      have M3 := Lib.hid (show Mb w1.heap.size nm cl w3 from M1.out.others q3.others (by omega))
      clear q3 M1 c0 c1
      obtain ⟨c0, c1⟩ := M3.out.cells
      have hlk := look14 w3 w.heap.size H3.out.mp nm
      cases hb : brk nm with
      | false =>
        rw [hb] at hlk
        have HQ2 := Lib.hid (show pcs l = done ++ pc (cur ++ a0) rs by rw [HQ.out, hb]; rfl)
        have hal := (Kept.refl w3).alloc (.cells #[] 184)
        have H4 := Lib.hid (H3.out.kept hal)
        have M4 := Lib.hid (M3.out.kept hal)
        clear HQ hb H3 M3 hal
        go_upto_region 9 with (fail)
        generalize w3.alloc (.cells #[] 184) = x4 at *
        clear c0 c1
        obtain ⟨c0, c1⟩ := M4.out.cells
        go_wp2_with fail
        refine (HK.out _ (HE.out.kept H4.out.k)).mono ?_
        rintro e w5 ⟨rfl, k5⟩
        have H5 := Lib.hid (H4.out.kept k5)
        clear k5 c0 c1
        go_wp2_with fail
        go_step3
        refine ⟨rfl, ⟨rs, cur ++ a0, done, v, _, _, _, _, _, _, _, _, _, _, _, _, _, _, _, _, _, _, _, _, _, _, _, _, _, _, _, _, _, _, _, _, _, _, _, _, _, _, _, _, rfl, H5.out, HQ2.out, by simp; omega, by omega⟩, ?_⟩
        show (ByteArray.mk rs.toArray).size < (ByteArray.mk rest.toArray).size
        rw [show (ByteArray.mk rs.toArray).size = rs.length from List.size_toArray, show (ByteArray.mk rest.toArray).size = rest.length from List.size_toArray]
        omega
      | true =>
        rw [hb] at hlk
        have HQ2 := Lib.hid (show pcs l = (done ++ [cur ++ a0]) ++ pc [] rs by rw [HQ.out, hb]; simp)
        have hal := (Kept.refl w3).alloc (.cells #[] 184)
        have H4 := Lib.hid (H3.out.kept hal)
        have M4 := Lib.hid (M3.out.kept hal)
        clear HQ hb H3 M3 hal
        go_upto_region 9 with (fail)
        generalize w3.alloc (.cells #[] 184) = x4 at *
        clear c0 c1
        go_wp2_with fail
        refine (Tryz.Builder_String_any_k _ _ _ _ H4.out.bd H4.out.k.size).mono ?_
        rintro e w5 ⟨rfl, q5, b5, o5⟩
        have H5 := H4.out.wrote ⟨q5, b5, o5⟩
        have M5 := M4.out.others o5 (by omega)
        have hal := (Kept.refl w5).alloc (.cells #[sV (cur ++ a0)] 9)
        have H6 := Lib.hid (H5.kept hal)
        have M6 := Lib.hid (M5.kept hal)
        have hc6 := (Kept.refl (w5.alloc (.cells #[sV (cur ++ a0)] 9))).new 0 (v := sV (cur ++ a0)) rfl
        clear q5 b5 o5 H4 H5 M4 M5 hal
        have hB6 := H6.out.k.size
        go_wp2_with (at_builtin; refine wpList_pushS rfl _ _ rfl w.heap.size v done (cur ++ a0) w5.heap.size rfl H6.out.own rfl hc6 (by omega) hB6 ?_)
        intro v' z hz hgz
        have H7 := Lib.hid (H6.out.push hz hgz)
        have M7 := Lib.hid (M6.out.push H6.out.own hgz)
        clear hz hgz hc6 hB6 H6 M6
        obtain ⟨ao, cp, hvv⟩ := own_slice H7.out.own
        rw [show (done ++ [cur ++ a0]).length = done.length + 1 by simp] at hvv
        subst hvv
        go_wp2_with fail
        refine (reset_any _ _ _ _ H7.out.bd H7.out.k.size).mono ?_
        rintro e w8 ⟨rfl, q8⟩
        have H8 := Lib.hid (H7.out.wrote q8)
        have M8 := Lib.hid (M7.out.others q8.others (by omega))
        clear q8 H7 M7
        obtain ⟨c0, c1⟩ := M8.out.cells
        go_wp2_with fail
        refine (HK.out _ (HE.out.kept H8.out.k)).mono ?_
        rintro e w9 ⟨rfl, k9⟩
        have H9 := Lib.hid (H8.out.kept k9)
        clear k9 c0 c1
        go_wp2_with fail
        go_step3
        refine ⟨rfl, ⟨rs, [], done ++ [cur ++ a0], _, _, _, _, _, _, _, _, _, _, _, _, _, _, _, _, _, _, _, _, _, _, _, _, _, _, _, _, _, _, _, _, _, _, _, _, _, _, _, _, _, rfl, H9.out, HQ2.out, by simp; omega, by simp; omega⟩, ?_⟩
        show (ByteArray.mk rs.toArray).size < (ByteArray.mk rest.toArray).size
        rw [show (ByteArray.mk rs.toArray).size = rs.length from List.size_toArray, show (ByteArray.mk rest.toArray).size = rest.length from List.size_toArray]
        omega
theorem nel_take {ps : List B} {i : Nat} {p : B} (h : ps[i]? = some p) : nel ((ps.take (i + 1)).map lin) = nel ((ps.take i).map lin) ++ (if lin p = [] then [] else [lin p]) := by
  rw [List.take_add_one, h]
  unfold nel
  rw [Option.toList_some, List.map_append, List.filter_append]
  congr 1
  by_cases e : lin p = []
  · rw [if_pos e]; simp [e]
  · rw [if_neg e]
    have : (lin p).isEmpty = false := by cases hq : lin p with
      | nil => exact absurd hq e
      | cons a r => rfl
    simp [this]
theorem nel_le (ps : List B) (i : Nat) : (nel ((ps.take i).map lin)).length ≤ ps.length := by
  unfold nel
  have := List.length_filter_le (fun t : B => !t.isEmpty) ((ps.take i).map lin)
  rw [List.length_map, List.length_take] at this
  omega
theorem join_any (v : Value) (ls : List B) (n : Nat) (w : World) (h : OwnS n v ls w) (hl : ls.length ≤ 4000000) (hb : ∀ t ∈ ls, t.length ≤ 4000000 ∧ t ≠ []) :
    Calls Tryz.prog 60 #[v, .string ⟨#[10]⟩] w fun e w' => e = .returned (.string ⟨(ls.foldl addL []).toArray⟩) ∧ Kept w w' := by
  by_cases hz : ls.length = 0
  · obtain ⟨ao, cp, rfl⟩ := own_slice h
    obtain rfl : ls = [] := List.length_eq_zero_iff.1 hz
    refine (Tryz.strings_Join_none ao cp ⟨#[10]⟩ w).mono ?_
    rintro e w' ⟨rfl, rfl⟩
    exact ⟨rfl, Kept.refl _⟩
  · obtain ⟨g, cap, rfl, hc⟩ := OutS.at (show OutS n v ls w from h) (show 0 < ls.length by omega)
    obtain ⟨hcap, hg⟩ : ls.length ≤ cap ∧ g < w.heap.size := by
      rcases h.2 with ⟨h1, h2⟩ | ⟨g', cap', cur, h1, h2, h3, h4, _⟩
      · exact absurd h2 hz
      · injection h1 with e1 _ e3
        cases e1
        subst e3
        exact ⟨h4, (Array.getElem?_eq_some_iff.1 h3).1⟩
    have he : Lib.join ((ls.map fun t => (⟨t.toArray⟩ : ByteArray)).map (·.data.toList)) (ByteArray.mk #[10]).data.toList = ls.foldl addL [] := by
      rw [List.map_map, show ((fun x : ByteArray => x.data.toList) ∘ fun t : B => (⟨t.toArray⟩ : ByteArray)) = id from rfl, List.map_id]
      exact join_of (fun t ht => (hb t ht).2)
    have hlen := fold_len 4000000 ls [] (fun t ht => (hb t ht).1)
    have := Tryz.strings_Join g 0 cap (ls.map fun t => (⟨t.toArray⟩ : ByteArray)) ⟨#[10]⟩ w (fun j x hx => by
      rw [List.getElem?_map] at hx
      cases hj : ls[j]? with
      | none => rw [hj] at hx; cases hx
      | some p => rw [hj] at hx; cases hx; rw [Nat.zero_add]; exact hc j p hj) hg (by rw [List.length_map]; omega) (by rw [List.length_map]; exact hcap) (by
        rw [he]
        have : ls.length * (4000000 + 1) ≤ 4000000 * (4000000 + 1) := Nat.mul_le_mul_right _ hl
        simp at hlen; omega)
    rw [he, List.length_map] at this
    refine this.mono ?_
    rintro e w' ⟨rfl, hb'⟩
    exact ⟨rfl, Kept.of_below hb'⟩
set_option maxRecDepth 100000 in
set_option maxHeartbeats 4000000 in
theorem of_any (l : B) (w : World) (hE : EnvP w) (hl : l.length ≤ 2000000) : Calls Tryz.prog 113 #[.string ⟨l.toArray⟩] w fun e w' => e = .returned (.string ⟨(ofP l).toArray⟩) ∧ Kept w w' := by
  have hm := pcs_mem l
  have hn := pcs_len l
  have hne := pc_ne [] l
  have HF := Lib.hid (ofP_nel l)
  have HE := Lib.hid hE
  have HP := Lib.hid (fun w hE => pieces_any l w hE hl)
  have HB : ∀ p ∈ pcs l, (lin p).length ≤ 4000000 := fun p hp => by have := lin_len p; have := hm p hp; omega
  rw [show pc [] l = pcs l from rfl] at hne
  clear hE
  generalize ofP l = z at *
  generalize pcs l = ps at *
  have HX := Lib.hid HB
  clear HB
  go_enter Tryz.func113, Tryz.ntmps113
  go_wp2_with fail
  refine (HP.out _ HE.out).mono ?_
  rintro e w1 ⟨v, rfl, hv, k1⟩
  have hps : 0 < ps.length := List.length_pos_iff.2 hne
  obtain ⟨g, cap, rfl, hc⟩ := OutS.at (show OutS w.heap.size v ps w1 from hv) hps
  have HC := Lib.hid hc
  have K1 := Lib.hid k1
  have hcap : ps.length ≤ cap := by
    rcases hv.2 with ⟨h1, h2⟩ | ⟨g', cap', cur, h1, h2, h3, h4, _⟩
    · omega
    · injection h1 with e1 _ e3
      subst e3
      exact h4
  clear hv hc k1 hne
  go_wp2_with fail
  go_loopw [3, 10] (fun vt vi wr => ∃ i : Nat, i ≤ ps.length ∧ vi = .int .i64 i ∧ Hid (Kept w1 wr) ∧ Hid (OwnS w1.heap.size vt (nel ((ps.take i).map lin)) wr)) (fun _ vi _ => ps.length - (intOf vi).toNat)
  case atStart => exact ⟨0, Nat.zero_le _, rfl, Lib.hid (Kept.refl _), Lib.hid (World.ownsRow_nil _ _ _ _)⟩
  case round =>
    obtain ⟨i, hi, rfl, hK, hO⟩ := hrel
    by_cases hlt : i < ps.length
    · have hltI : (i : Int) < ps.length := by omega
      obtain ⟨p, hp⟩ : ∃ p, ps[i]? = some p := ⟨_, List.getElem?_eq_getElem hlt⟩
      have hpm := List.mem_of_getElem? hp
      have hpl := hm p hpm
      have hc0 := hK.out.yes (HC.out i p hp)
      have HN := Lib.hid (nel_take hp)
      have hle := nel_le ps i
      have HW := Lib.hid (HE.out.kept (K1.out.trans hK.out))
      have HL := Lib.hid (fun w hE => loose_any p w hE (by omega))
      have HT := Lib.hid (fun w hE => trim_any (gone p).1 w hE (by have := gone_len _ p (Nat.le_refl _); omega))
      rw [show tr (gone p).1 = lin p from rfl] at HT
      generalize nel ((ps.take i).map lin) = D at *
      generalize lin p = t at *
      generalize (gone p).1 = q at *
      go_wp2_with fail
      refine (HL.out _ HW.out.env).mono ?_
      rintro e w2 ⟨rfl, k2⟩
      go_wp2_with fail
      refine (HT.out _ (HW.out.env.kept k2)).mono ?_
      rintro e w3 ⟨rfl, k3⟩
      have K3 := Lib.hid (k2.trans k3)
      clear k2 k3
      by_cases ht : t = []
      · subst ht
        have HD := Lib.hid (show nel ((ps.take (i + 1)).map lin) = D by rw [HN.out, if_pos rfl, List.append_nil])
        have O3 := Lib.hid (show OwnS w1.heap.size u3 D w3 from OwnS.kept hO.out K3.out)
        have KK := Lib.hid (hK.out.trans K3.out)
        clear HN hO hK K3
        go_wp2
        go_roundw
        case rel => exact ⟨i + 1, hlt, by go_num, KK, Lib.hid (by rw [HD.out]; exact O3.out)⟩
        case measure => simp [intOf]; omega
      · have hte : t.isEmpty = false := by cases t with
          | nil => exact absurd rfl ht
          | cons a r => rfl
        have HD := Lib.hid (show nel ((ps.take (i + 1)).map lin) = D ++ [t] by rw [HN.out, if_neg ht])
        have hal := (Kept.refl w3).alloc (.cells #[sV t] 9)
        have O4 := Lib.hid (OwnS.kept (OwnS.kept hO.out K3.out) hal)
        have K4 := Lib.hid ((hK.out.trans K3.out).trans hal)
        have hc4 := (Kept.refl (w3.alloc (.cells #[sV t] 9))).new 0 (v := sV t) rfl
        have hB4 := K4.out.size
        clear ht HN hO hK K3 hal
        go_wp2_with (at_builtin; refine wpList_pushS rfl _ _ rfl w1.heap.size u3 D t w3.heap.size rfl O4.out rfl hc4 (by omega) hB4 ?_)
        intro v' y hz hgz
        have KZ := Lib.hid (kept_row K4.out hgz (fun g hg => (World.ownsRow.lt O4.out g hg).1))
        have OZ := Lib.hid hz
        clear hz hgz hc4 hB4 O4 K4
        go_wp2
        go_roundw
        case rel => exact ⟨i + 1, hlt, by go_num, KZ, Lib.hid (by rw [HD.out]; exact OZ.out)⟩
        case measure => simp [intOf]; omega
    · obtain rfl : i = ps.length := by omega
      have hle := nel_le ps ps.length
      rw [List.take_length] at hO hle
      have HJ := Lib.hid (fun w h => join_any u3 (nel (ps.map lin)) w1.heap.size w h (by omega) (fun t ht => ⟨by
        have := (List.mem_filter.1 ht).1
        rw [List.mem_map] at this
        obtain ⟨p, hp, rfl⟩ := this
        have := HX.out p hp
        omega, nel_ne t ht⟩))
      rw [← HF.out] at HJ
      go_wp2_with fail
      refine (HJ.out _ hO.out).mono ?_
      rintro e w2 ⟨rfl, k2⟩
      have KK := (K1.out.trans hK.out).trans k2
      go_wp2
      go_ret
      exact ⟨rfl, KK⟩
end Go.Proofs.YtjlpkgipdkjfhaaGreatDoor.Pl
