/- Contracts of package zone: a whole text is read, and parsed. -/
import Derived.Test.YtomnjdammfiadaaDoorZnRdR
import Derived.Test.YtomnjdammfiadaaDoorZnWriteN
import Derived.Deep.Cut
namespace Go.Proofs.YtomnjdammfiadaaDoor
open Go.ChangeShapes Go.WideShapes Go.ChangeAt Go.RowKit
open Zn
abbrev zo15 (s : List UInt8) (o : Int) (h : Bool) (d : List UInt8) (a k1 m1 x1 d1 a1 k2 m2 x2 d2 a2 : Int) : Array Value := #[.string ⟨s.toArray⟩, .int .i64 o, .bool h, .string ⟨d.toArray⟩, .int .i64 a, .int .i64 k1, .int .i64 m1, .int .i64 x1, .int .i64 d1, .int .i64 a1, .int .i64 k2, .int .i64 m2, .int .i64 x2, .int .i64 d2, .int .i64 a2]
theorem zo15_one (s : List UInt8) (o : Int) (h : Bool) (d : List UInt8) (a k1 m1 x1 d1 a1 k2 m2 x2 d2 a2 : Int) : ((zo15 s o h d a k1 m1 x1 d1 a1 k2 m2 x2 d2 a2).all fun x => x.oneCell') = true := by simp [Value.oneCell']
theorem Kept.only {n : Nat} {w x x' : World} (h : Kept w x) (o : Only n x x') (hn : w.heap.size ≤ n) : Kept w x' :=
  ⟨o.os.trans h.os, o.output.trans h.output, Nat.le_trans h.size o.size, fun k hk => (o.block k (Nat.lt_of_lt_of_le hk h.size) (by omega)).trans (h.block k hk)⟩
theorem Kept.setRow {w x : World} (h : Kept w x) {g : Nat} (hg : w.heap.size ≤ g) (cs : Array Value) : Kept w (x.setRow g cs) :=
  ⟨h.os, h.output, by simpa using h.size, fun k hk => (setRow_other _ _ _ _ (by omega)).trans (h.block k hk)⟩
/-- within the reading of a zone: the result's block, the reader's behind it, the zone's own at m -/
structure Sz (m : Nat) (w : World) (z : Array Value) (l : List UInt8) (x : World) : Prop where
  k : Kept w x
  lo : w.heap.size + 1 < m
  lt : m < x.heap.size
  b0 : x.heap[w.heap.size]? = some (.cells (zo15 [] 0 false [] 0 0 0 0 0 0 0 0 0 0 0) 25)
  b1 : x.heap[m]? = some (.cells z 25)
  rd : Rd (w.heap.size + 1) l x
theorem Sz.step {m : Nat} {w x x' : World} {z : Array Value} {l r : List UInt8} (h : Sz m w z l x) (o : Only (w.heap.size + 1) x x') (hr : Rd (w.heap.size + 1) r x') : Sz m w z r x' :=
  have lo := h.lo
  have lt := h.lt
  ⟨h.k.only o (by omega), h.lo, Nat.lt_of_lt_of_le h.lt o.size, (o.block _ (by omega) (by omega)).trans h.b0, (o.block _ h.lt (by omega)).trans h.b1, hr⟩
theorem Sz.set {m : Nat} {w x : World} {z : Array Value} {l : List UInt8} (h : Sz m w z l x) (j : Nat) (v : Value) : Sz m w (z.setIfInBounds j v) l (x.setCell ⟨m, j, none⟩ v) := by
  have lo := h.lo
  exact ⟨h.k.setCell (a := ⟨m, j, none⟩) (by simp only; omega) v, h.lo, by simpa [World.setCell] using h.lt, (Below.heap_setCell _ _ _ _ (by simp only; omega)).trans h.b0, block_set h.b1 v, h.rd.set (by simp only; omega) v⟩
theorem Sz.s0 {m : Nat} {w x : World} {s : List UInt8} {o : Int} {h : Bool} {d : List UInt8} {a k1 m1 x1 d1 a1 k2 m2 x2 d2 a2 : Int} {l : List UInt8} (S : Sz m w (zo15 s o h d a k1 m1 x1 d1 a1 k2 m2 x2 d2 a2) l x) (v : List UInt8) : Sz m w (zo15 v o h d a k1 m1 x1 d1 a1 k2 m2 x2 d2 a2) l (x.setCell ⟨m, 0, none⟩ (.string ⟨v.toArray⟩)) := S.set 0 (.string ⟨v.toArray⟩)
theorem Sz.s1 {m : Nat} {w x : World} {s : List UInt8} {o : Int} {h : Bool} {d : List UInt8} {a k1 m1 x1 d1 a1 k2 m2 x2 d2 a2 : Int} {l : List UInt8} (S : Sz m w (zo15 s o h d a k1 m1 x1 d1 a1 k2 m2 x2 d2 a2) l x) (v : Int) : Sz m w (zo15 s v h d a k1 m1 x1 d1 a1 k2 m2 x2 d2 a2) l (x.setCell ⟨m, 1, none⟩ (.int .i64 v)) := S.set 1 (.int .i64 v)
theorem Sz.s2 {m : Nat} {w x : World} {s : List UInt8} {o : Int} {h : Bool} {d : List UInt8} {a k1 m1 x1 d1 a1 k2 m2 x2 d2 a2 : Int} {l : List UInt8} (S : Sz m w (zo15 s o h d a k1 m1 x1 d1 a1 k2 m2 x2 d2 a2) l x) (v : Bool) : Sz m w (zo15 s o v d a k1 m1 x1 d1 a1 k2 m2 x2 d2 a2) l (x.setCell ⟨m, 2, none⟩ (.bool v)) := S.set 2 (.bool v)
theorem Sz.s3 {m : Nat} {w x : World} {s : List UInt8} {o : Int} {h : Bool} {d : List UInt8} {a k1 m1 x1 d1 a1 k2 m2 x2 d2 a2 : Int} {l : List UInt8} (S : Sz m w (zo15 s o h d a k1 m1 x1 d1 a1 k2 m2 x2 d2 a2) l x) (v : List UInt8) : Sz m w (zo15 s o h v a k1 m1 x1 d1 a1 k2 m2 x2 d2 a2) l (x.setCell ⟨m, 3, none⟩ (.string ⟨v.toArray⟩)) := S.set 3 (.string ⟨v.toArray⟩)
theorem Sz.s4 {m : Nat} {w x : World} {s : List UInt8} {o : Int} {h : Bool} {d : List UInt8} {a k1 m1 x1 d1 a1 k2 m2 x2 d2 a2 : Int} {l : List UInt8} (S : Sz m w (zo15 s o h d a k1 m1 x1 d1 a1 k2 m2 x2 d2 a2) l x) (v : Int) : Sz m w (zo15 s o h d v k1 m1 x1 d1 a1 k2 m2 x2 d2 a2) l (x.setCell ⟨m, 4, none⟩ (.int .i64 v)) := S.set 4 (.int .i64 v)
theorem Sz.s5 {m : Nat} {w x : World} {s : List UInt8} {o : Int} {h : Bool} {d : List UInt8} {a k1 m1 x1 d1 a1 k2 m2 x2 d2 a2 : Int} {l : List UInt8} (S : Sz m w (zo15 s o h d a k1 m1 x1 d1 a1 k2 m2 x2 d2 a2) l x) (v : Int) : Sz m w (zo15 s o h d a v m1 x1 d1 a1 k2 m2 x2 d2 a2) l (x.setCell ⟨m, 5, none⟩ (.int .i64 v)) := S.set 5 (.int .i64 v)
theorem Sz.s6 {m : Nat} {w x : World} {s : List UInt8} {o : Int} {h : Bool} {d : List UInt8} {a k1 m1 x1 d1 a1 k2 m2 x2 d2 a2 : Int} {l : List UInt8} (S : Sz m w (zo15 s o h d a k1 m1 x1 d1 a1 k2 m2 x2 d2 a2) l x) (v : Int) : Sz m w (zo15 s o h d a k1 v x1 d1 a1 k2 m2 x2 d2 a2) l (x.setCell ⟨m, 6, none⟩ (.int .i64 v)) := S.set 6 (.int .i64 v)
theorem Sz.s7 {m : Nat} {w x : World} {s : List UInt8} {o : Int} {h : Bool} {d : List UInt8} {a k1 m1 x1 d1 a1 k2 m2 x2 d2 a2 : Int} {l : List UInt8} (S : Sz m w (zo15 s o h d a k1 m1 x1 d1 a1 k2 m2 x2 d2 a2) l x) (v : Int) : Sz m w (zo15 s o h d a k1 m1 v d1 a1 k2 m2 x2 d2 a2) l (x.setCell ⟨m, 7, none⟩ (.int .i64 v)) := S.set 7 (.int .i64 v)
theorem Sz.s8 {m : Nat} {w x : World} {s : List UInt8} {o : Int} {h : Bool} {d : List UInt8} {a k1 m1 x1 d1 a1 k2 m2 x2 d2 a2 : Int} {l : List UInt8} (S : Sz m w (zo15 s o h d a k1 m1 x1 d1 a1 k2 m2 x2 d2 a2) l x) (v : Int) : Sz m w (zo15 s o h d a k1 m1 x1 v a1 k2 m2 x2 d2 a2) l (x.setCell ⟨m, 8, none⟩ (.int .i64 v)) := S.set 8 (.int .i64 v)
theorem Sz.s9 {m : Nat} {w x : World} {s : List UInt8} {o : Int} {h : Bool} {d : List UInt8} {a k1 m1 x1 d1 a1 k2 m2 x2 d2 a2 : Int} {l : List UInt8} (S : Sz m w (zo15 s o h d a k1 m1 x1 d1 a1 k2 m2 x2 d2 a2) l x) (v : Int) : Sz m w (zo15 s o h d a k1 m1 x1 d1 v k2 m2 x2 d2 a2) l (x.setCell ⟨m, 9, none⟩ (.int .i64 v)) := S.set 9 (.int .i64 v)
theorem Sz.s10 {m : Nat} {w x : World} {s : List UInt8} {o : Int} {h : Bool} {d : List UInt8} {a k1 m1 x1 d1 a1 k2 m2 x2 d2 a2 : Int} {l : List UInt8} (S : Sz m w (zo15 s o h d a k1 m1 x1 d1 a1 k2 m2 x2 d2 a2) l x) (v : Int) : Sz m w (zo15 s o h d a k1 m1 x1 d1 a1 v m2 x2 d2 a2) l (x.setCell ⟨m, 10, none⟩ (.int .i64 v)) := S.set 10 (.int .i64 v)
theorem Sz.s11 {m : Nat} {w x : World} {s : List UInt8} {o : Int} {h : Bool} {d : List UInt8} {a k1 m1 x1 d1 a1 k2 m2 x2 d2 a2 : Int} {l : List UInt8} (S : Sz m w (zo15 s o h d a k1 m1 x1 d1 a1 k2 m2 x2 d2 a2) l x) (v : Int) : Sz m w (zo15 s o h d a k1 m1 x1 d1 a1 k2 v x2 d2 a2) l (x.setCell ⟨m, 11, none⟩ (.int .i64 v)) := S.set 11 (.int .i64 v)
theorem Sz.s12 {m : Nat} {w x : World} {s : List UInt8} {o : Int} {h : Bool} {d : List UInt8} {a k1 m1 x1 d1 a1 k2 m2 x2 d2 a2 : Int} {l : List UInt8} (S : Sz m w (zo15 s o h d a k1 m1 x1 d1 a1 k2 m2 x2 d2 a2) l x) (v : Int) : Sz m w (zo15 s o h d a k1 m1 x1 d1 a1 k2 m2 v d2 a2) l (x.setCell ⟨m, 12, none⟩ (.int .i64 v)) := S.set 12 (.int .i64 v)
theorem Sz.s13 {m : Nat} {w x : World} {s : List UInt8} {o : Int} {h : Bool} {d : List UInt8} {a k1 m1 x1 d1 a1 k2 m2 x2 d2 a2 : Int} {l : List UInt8} (S : Sz m w (zo15 s o h d a k1 m1 x1 d1 a1 k2 m2 x2 d2 a2) l x) (v : Int) : Sz m w (zo15 s o h d a k1 m1 x1 d1 a1 k2 m2 x2 v a2) l (x.setCell ⟨m, 13, none⟩ (.int .i64 v)) := S.set 13 (.int .i64 v)
theorem Sz.s14 {m : Nat} {w x : World} {s : List UInt8} {o : Int} {h : Bool} {d : List UInt8} {a k1 m1 x1 d1 a1 k2 m2 x2 d2 a2 : Int} {l : List UInt8} (S : Sz m w (zo15 s o h d a k1 m1 x1 d1 a1 k2 m2 x2 d2 a2) l x) (v : Int) : Sz m w (zo15 s o h d a k1 m1 x1 d1 a1 k2 m2 x2 d2 v) l (x.setCell ⟨m, 14, none⟩ (.int .i64 v)) := S.set 14 (.int .i64 v)
theorem x0_b0 (w : World) (A B : Obj) : ((w.alloc A).alloc B).heap[w.heap.size]? = some A := by
  show ((w.heap.push A).push B)[w.heap.size]? = _
  rw [Array.getElem?_push, if_neg (by simp), Array.getElem?_push, if_pos rfl]
theorem x0_rd (w : World) (A : Obj) (l : List UInt8) (t : TypeId) : Rd (w.heap.size + 1) l ((w.alloc A).alloc (.cells #[.string ⟨l.toArray⟩] t)) := by
  have q : ((w.alloc A).alloc (.cells #[.string ⟨l.toArray⟩] t)).heap[w.heap.size + 1]? = some (.cells #[.string ⟨l.toArray⟩] t) := by
    show ((w.heap.push A).push _)[w.heap.size + 1]? = _
    rw [Array.getElem?_push, if_pos (by simp)]
  exact ⟨by show _ < ((w.heap.push A).push _).size; simp, cell_of q rfl, fro_of q 0⟩
theorem sz_start {w x1 : World} {A : Obj} {l r : List UInt8} {t : TypeId} (hA : A = .cells (zo15 [] 0 false [] 0 0 0 0 0 0 0 0 0 0 0) 25) (o : Only (w.heap.size + 1) ((w.alloc A).alloc (.cells #[.string ⟨l.toArray⟩] t)) x1) (hr : Rd (w.heap.size + 1) r x1) (z : Array Value) :
    Sz x1.heap.size w z r (x1.alloc (.cells z 25)) := by
  have hs := o.size
  have hz : ((w.alloc A).alloc (.cells #[.string ⟨l.toArray⟩] t)).heap.size = w.heap.size + 2 := by show ((w.heap.push A).push _).size = _; simp
  have k0 : Kept w ((w.alloc A).alloc (.cells #[.string ⟨l.toArray⟩] t)) := ((Kept.refl w).alloc _).alloc _
  have k1 := k0.only o (by omega)
  refine ⟨k1.alloc _, by omega, by show _ < (x1.heap.push _).size; simp, ?_, ?_, hr.alloc _⟩
  · rw [((Kept.refl x1).alloc _).block _ (by omega), o.block _ (by omega) (by omega), x0_b0, hA]
  · show (x1.heap.push _)[x1.heap.size]? = _
    simp
theorem rulK_len (l : List UInt8) : (rulK l).2.length ≤ l.length := by
  have h1 := skp_len 74 l
  have h2 := skp_len 77 (skp 74 l).2
  have h3 := num_len (skp 77 (skp 74 l).2).2
  have h4 := skp_len 46 (num (skp 77 (skp 74 l).2).2).2
  have h5 := num_len (skp 46 (num (skp 77 (skp 74 l).2).2).2).2
  have h6 := skp_len 46 (num (skp 46 (num (skp 77 (skp 74 l).2).2).2).2).2
  cases h : (skp 74 l).1 with
  | true => rw [rulK_J h]; exact h1
  | false =>
    cases h' : (skp 77 (skp 74 l).2).1 with
    | true => rw [rulK_M h h']; simp only; omega
    | false => rw [rulK_Z h h']; simp only; omega
theorem rulA_len (l : List UInt8) : (rulA l).2.length ≤ l.length := by
  have h1 := skp_len 47 l
  have h2 := tim_len (skp 47 l).2
  cases h : (skp 47 l).1 with
  | true => rw [rulA_yes h]; omega
  | false => rw [rulA_no h]; exact h1
theorem rul_len (l : List UInt8) : (rul l).2.length ≤ l.length := by
  have h1 := skp_len 44 l
  have h2 := rulK_len (skp 44 l).2
  have h3 := num_len (rulK (skp 44 l).2).2
  have h4 := rulA_len (num (rulK (skp 44 l).2).2).2
  unfold rul; simp only; omega
theorem head_skp (l : List UInt8) : (skp 44 l).1 = decide (l.head? = some 44) := by
  cases l with
  | nil => rfl
  | cons b r => by_cases h : b = 44 <;> simp [skp, h]
theorem red_short {l : List UInt8} (h : (tim (nam l).2).2 = []) : red l = ⟨(nam l).1, wr (-(tim (nam l).2).1), false, [], 0, ru0, ru0⟩ := by
  unfold red; simp only; rw [if_pos h]
theorem red_long {l : List UInt8} (h : ¬ (tim (nam l).2).2 = []) : red l = ⟨(nam l).1, wr (-(tim (nam l).2).1), true, (nam (tim (nam l).2).2).1, (redA (wr (-(tim (nam l).2).1)) (nam (tim (nam l).2).2).2).1, (rul (redA (wr (-(tim (nam l).2).1)) (nam (tim (nam l).2).2).2).2).1, (rul (rul (redA (wr (-(tim (nam l).2).1)) (nam (tim (nam l).2).2).2).2).2).1⟩ := by
  unfold red; simp only; rw [if_neg h]
set_option maxRecDepth 100000 in
set_option maxHeartbeats 4000000 in
theorem read_any (l : List UInt8) (w : World) (hl : l.length ≤ 1000) :
    Calls Tryd.prog 31 #[.string ⟨l.toArray⟩] w fun e w' => e = .returned (zoV (red l)) ∧ Kept w w' := by
  have R0 := Lib.hid (x0_rd w (.cells (zo15 [] 0 false [] 0 0 0 0 0 0 0 0 0 0 0) 25) l 58)
  have hl1 := nam_len l
  have hl2 := tim_len (nam l).2
  have RS := Lib.hid (@red_short l)
  have RL := Lib.hid (@red_long l)
  go_enter Tryd.func31, Tryd.ntmps31
  go_wp2_with fail
  refine (name_any l _ _ R0.out hl).mono ?_
  rintro e x1 ⟨rfl, o, r⟩
  have S1 := Lib.hid (sz_start (A := .cells (zo15 [] 0 false [] 0 0 0 0 0 0 0 0 0 0 0) 25) rfl o r (zo15 (nam l).1 0 false [] 0 0 0 0 0 0 0 0 0 0 0)); clear o r R0
  generalize (nam l).1 = s at *
  generalize (nam l).2 = la at *
  go_wp2_with fail
  generalize hm : x1.heap.size = m at *
  generalize x1.alloc (.cells (zo15 s 0 false [] 0 0 0 0 0 0 0 0 0 0 0) 25) = x2 at *
  clear hm
  refine (time_any la _ _ S1.out.rd (by omega)).mono ?_
  rintro e x3 ⟨rfl, o, r⟩
  have S2 := Lib.hid (S1.out.step o r); clear o r S1
  generalize (tim la).1 = t at *
  generalize (tim la).2 = lb at *
  have RS2 := Lib.hid (fun (h : lb = []) => RS.out h)
  have RL2 := Lib.hid (fun (h : ¬ lb = []) => RL.out h)
  clear RS RL
  generalize hoff : wr (-t) = off at *
  have S4 := Lib.hid (show Sz m w (zo15 s off false [] 0 0 0 0 0 0 0 0 0 0 0) _ (x3.setCell ⟨m, 1, none⟩ (.int .i64 off)) from (S2.out.s1 off))
  have c1 := cell_of (j := 1) S2.out.b1 rfl
  have c2 := cell_of (j := 2) S2.out.b1 rfl
  have f1 := fro_of S2.out.b1
  have HOF := Lib.hid hoff
  have hw0 : wrap64 (-t) = off := hoff
  clear hoff
  cases lb with
  | nil =>
    have RE := Lib.hid (RS2.out rfl); clear RS2 RL2
    have n1 : ¬ w.heap.size = m := by have := S2.out.lo; omega
    have n2 : ¬ m = w.heap.size := by omega
    have n3 : ¬ w.heap.size + 1 = m := by have := S2.out.lo; omega
    have n4 : ¬ m = w.heap.size + 1 := by omega
    have hrd := S2.out.rd.cell
    go_wp2_with (first | (refine wpList_load_row rfl 25 _ rfl m rfl 25 _ (0, 0) _ S4.out.b1 Tryd.underlying25 rfl (by kernel_rfl) ?_) | (refine wpList_store_row rfl 25 _ _ rfl w.heap.size _ rfl rfl 25 _ S4.out.b0 (by kernel_rfl) rfl (zo15_one _ _ _ _ _ _ _ _ _ _ _ _ _ _ _) ?_))
    rw [RE.out]
    exact bodyPost_ret (v := zoV ⟨s, off, false, [], 0, ru0, ru0⟩) (results_cell_row Tryd.results31 _ _ w.heap.size 25 _ (0, 0) _ rfl (setRow_heap _ _ _ _ _ _ S4.out.b0) Tryd.underlying25 rfl (by kernel_rfl)) rfl ⟨rfl, S4.out.k.setRow (Nat.le_refl _) _⟩
  | cons bb lbb =>
    have RE := Lib.hid (RL2.out (by simp)); clear RS2 RL2
    have hrd := S2.out.rd.cell
    have S5 := Lib.hid (show Sz m w (zo15 s off true [] 0 0 0 0 0 0 0 0 0 0 0) _ ((x3.setCell ⟨m, 1, none⟩ (.int .i64 off)).setCell ⟨m, 2, none⟩ (.bool true)) from S4.out.s2 true)
    have n1 : ¬ w.heap.size = m := by have := S2.out.lo; omega
    have n2 : ¬ m = w.heap.size := by omega
    have n3 : ¬ w.heap.size + 1 = m := by have := S2.out.lo; omega
    have n4 : ¬ m = w.heap.size + 1 := by omega
    go_wp2_with fail
    clear hrd n1 n2 n3 n4
    clear c1 c2 f1
    clear S2 S4
    generalize (x3.setCell ⟨m, 1, none⟩ (.int .i64 off)).setCell ⟨m, 2, none⟩ (.bool true) = x5 at *
    generalize bb :: lbb = lc at *
    have hl3 := nam_len lc
    refine (name_any lc _ _ S5.out.rd (by omega)).mono ?_
    rintro e x6 ⟨rfl, o, r⟩
    have S6 := Lib.hid (S5.out.step o r); clear o r S5
    generalize (nam lc).1 = d at *
    generalize (nam lc).2 = ld at *
    have RA := Lib.hid (show redA off ld = if ld.head? = some 44 then (wr (off + 3600), ld) else (wr (-(tim ld).1), (tim ld).2) from rfl)
    generalize hah : wr (off + 3600) = ah at *
    have hw1 : wrap64 (off + 3600) = ah := hah
    clear hah
    have S7 := Lib.hid (show Sz m w (zo15 s off true d ah 0 0 0 0 0 0 0 0 0 0) _ ((x6.setCell ⟨m, 3, none⟩ (.string ⟨d.toArray⟩)).setCell ⟨m, 4, none⟩ (.int .i64 ah)) from (S6.out.s3 d).s4 ah)
    have c1 := cell_of (j := 1) S6.out.b1 rfl
    have c3 := cell_of (j := 3) S6.out.b1 rfl
    have c4 := cell_of (j := 4) S6.out.b1 rfl
    have f1 := fro_of S6.out.b1
    have hrd := S6.out.rd.cell
    have n1 : ¬ w.heap.size = m := by have := S6.out.lo; omega
    have n2 : ¬ m = w.heap.size := by omega
    have n3 : ¬ w.heap.size + 1 = m := by have := S6.out.lo; omega
    have n4 : ¬ m = w.heap.size + 1 := by omega
    go_wp2_with fail
    clear hrd n1 n2 n3 n4 hw1
    clear c1 c3 c4 f1
    clear S6
    generalize (x6.setCell ⟨m, 3, none⟩ (.string ⟨d.toArray⟩)).setCell ⟨m, 4, none⟩ (.int .i64 ah) = x7 at *
    refine (Tryd.strings_HasPrefix _ _ _).mono ?_
    rintro e xx ⟨rfl, rfl⟩
    rw [show (ByteArray.mk ld.toArray).data.toList = ld by simp, show (ByteArray.mk #[44]).data.toList = [44] from rfl, hasPrefix_one, head_skp]
    have hl4 := tim_len ld
    by_cases hh : ld.head? = some 44
    · rw [show decide (ld.head? = some 44) = true by simp [hh]]
      have RA2 := Lib.hid (show redA off ld = (ah, ld) by rw [RA.out, if_pos hh]); clear RA hh
      have RE2 := Lib.hid RE.out; clear RE
      go_wp2_with fail
      have RE3 := Lib.hid (show red l = ⟨s, off, true, d, ah, (rul ld).1, (rul (rul ld).2).1⟩ by rw [RE2.out, RA2.out]); clear RE2 RA2
      have hl5 := rul_len ld
      refine (rule_any ld _ _ S7.out.rd (by omega)).mono ?_
      rintro e x8 ⟨rfl, o, r⟩
      have S8 := Lib.hid (S7.out.step o r); clear o r S7
      rcases hr1 : rul ld with ⟨⟨k1, m1, q1, d1, a1⟩, lg⟩
      rw [hr1] at S8 RE3 hl5
      simp only at hl5
      have RE4 := Lib.hid (show red l = ⟨s, off, true, d, ah, ⟨k1, m1, q1, d1, a1⟩, (rul lg).1⟩ from RE3.out); clear RE3 hr1
      have S9 := Lib.hid (show Sz m w (zo15 s off true d ah k1 m1 q1 d1 a1 0 0 0 0 0) _ (((((x8.setCell ⟨m, 5, none⟩ (.int .i64 k1)).setCell ⟨m, 6, none⟩ (.int .i64 m1)).setCell ⟨m, 7, none⟩ (.int .i64 q1)).setCell ⟨m, 8, none⟩ (.int .i64 d1)).setCell ⟨m, 9, none⟩ (.int .i64 a1)) from (((((S8.out.s5 k1).s6 m1).s7 q1).s8 d1).s9 a1))
      have c5 := cell_of (j := 5) S8.out.b1 rfl
      have c6 := cell_of (j := 6) S8.out.b1 rfl
      have c7 := cell_of (j := 7) S8.out.b1 rfl
      have c8 := cell_of (j := 8) S8.out.b1 rfl
      have c9 := cell_of (j := 9) S8.out.b1 rfl
      have f1 := fro_of S8.out.b1
      go_wp2_with fail
      clear c5 c6 c7 c8 c9 f1
      clear S8
      generalize (((((x8.setCell ⟨m, 5, none⟩ (.int .i64 k1)).setCell ⟨m, 6, none⟩ (.int .i64 m1)).setCell ⟨m, 7, none⟩ (.int .i64 q1)).setCell ⟨m, 8, none⟩ (.int .i64 d1)).setCell ⟨m, 9, none⟩ (.int .i64 a1)) = x9 at *
      refine (rule_any lg _ _ S9.out.rd (by omega)).mono ?_
      rintro e x10 ⟨rfl, o, r⟩
      have S10 := Lib.hid (S9.out.step o r); clear o r S9
      rcases hr2 : rul lg with ⟨⟨k2, m2, q2, d2, a2⟩, lh⟩
      rw [hr2] at S10 RE4
      have RE5 := Lib.hid (show red l = ⟨s, off, true, d, ah, ⟨k1, m1, q1, d1, a1⟩, ⟨k2, m2, q2, d2, a2⟩⟩ from RE4.out); clear RE4 hr2
      have S11 := Lib.hid (show Sz m w (zo15 s off true d ah k1 m1 q1 d1 a1 k2 m2 q2 d2 a2) _ (((((x10.setCell ⟨m, 10, none⟩ (.int .i64 k2)).setCell ⟨m, 11, none⟩ (.int .i64 m2)).setCell ⟨m, 12, none⟩ (.int .i64 q2)).setCell ⟨m, 13, none⟩ (.int .i64 d2)).setCell ⟨m, 14, none⟩ (.int .i64 a2)) from (((((S10.out.s10 k2).s11 m2).s12 q2).s13 d2).s14 a2))
      have c10 := cell_of (j := 10) S10.out.b1 rfl
      have c11 := cell_of (j := 11) S10.out.b1 rfl
      have c12 := cell_of (j := 12) S10.out.b1 rfl
      have c13 := cell_of (j := 13) S10.out.b1 rfl
      have c14 := cell_of (j := 14) S10.out.b1 rfl
      have f1 := fro_of S10.out.b1
      have n1 : ¬ w.heap.size = m := by have := S10.out.lo; omega
      have n2 : ¬ m = w.heap.size := by omega
      have n3 : ¬ w.heap.size + 1 = m := by have := S10.out.lo; omega
      have n4 : ¬ m = w.heap.size + 1 := by omega
      go_upto_region 13 with (fail)
      clear n1 n2 n3 n4
      clear c10 c11 c12 c13 c14 f1
      clear S10
      generalize (((((x10.setCell ⟨m, 10, none⟩ (.int .i64 k2)).setCell ⟨m, 11, none⟩ (.int .i64 m2)).setCell ⟨m, 12, none⟩ (.int .i64 q2)).setCell ⟨m, 13, none⟩ (.int .i64 d2)).setCell ⟨m, 14, none⟩ (.int .i64 a2)) = x11 at *
      go_step
      refine wpList_load_row rfl 25 _ rfl m rfl 25 _ (0, 0) _ S11.out.b1 Tryd.underlying25 rfl (by kernel_rfl) ?_
      refine wpList_store_row rfl 25 _ _ rfl w.heap.size _ rfl rfl 25 _ S11.out.b0 (by kernel_rfl) rfl (zo15_one _ _ _ _ _ _ _ _ _ _ _ _ _ _ _) ?_
      go_wp2
      rw [RE5.out]
      exact bodyPost_ret (v := zoV ⟨s, off, true, d, ah, ⟨k1, m1, q1, d1, a1⟩, ⟨k2, m2, q2, d2, a2⟩⟩) (results_cell_row Tryd.results31 _ _ w.heap.size 25 _ (0, 0) _ rfl (setRow_heap _ _ _ _ _ _ S11.out.b0) Tryd.underlying25 rfl (by kernel_rfl)) rfl ⟨rfl, S11.out.k.setRow (Nat.le_refl _) _⟩
    · rw [show decide (ld.head? = some 44) = false by simp [hh]]
      have RA2 := Lib.hid (show redA off ld = (wr (-(tim ld).1), (tim ld).2) by rw [RA.out, if_neg hh]); clear RA hh
      have RE2 := Lib.hid RE.out; clear RE
      go_wp2_with fail
      refine (time_any ld _ _ S7.out.rd (by omega)).mono ?_
      rintro e x8 ⟨rfl, o, r⟩
      have S8 := Lib.hid (S7.out.step o r); clear o r S7
      generalize (tim ld).1 = ta at *
      generalize (tim ld).2 = lf at *
      generalize hav : wr (-ta) = av at *
      have hw2 : wrap64 (-ta) = av := hav
      clear hav
      have S9 := Lib.hid (show Sz m w (zo15 s off true d av 0 0 0 0 0 0 0 0 0 0) _ (x8.setCell ⟨m, 4, none⟩ (.int .i64 av)) from (S8.out.s4 av))
      have c4 := cell_of (j := 4) S8.out.b1 rfl
      have f1 := fro_of S8.out.b1
      go_wp2_with fail
      clear hw2
      clear c4 f1
      clear S8
      generalize (x8.setCell ⟨m, 4, none⟩ (.int .i64 av)) = x9 at *
      have RE3 := Lib.hid (show red l = ⟨s, off, true, d, av, (rul lf).1, (rul (rul lf).2).1⟩ by rw [RE2.out, RA2.out]); clear RE2 RA2
      have hl5 := rul_len lf
      refine (rule_any lf _ _ S9.out.rd (by omega)).mono ?_
      rintro e x10 ⟨rfl, o, r⟩
      have S10 := Lib.hid (S9.out.step o r); clear o r S9
      rcases hr1 : rul lf with ⟨⟨k1, m1, q1, d1, a1⟩, lg⟩
      rw [hr1] at S10 RE3 hl5
      simp only at hl5
      have RE4 := Lib.hid (show red l = ⟨s, off, true, d, av, ⟨k1, m1, q1, d1, a1⟩, (rul lg).1⟩ from RE3.out); clear RE3 hr1
      have S11 := Lib.hid (show Sz m w (zo15 s off true d av k1 m1 q1 d1 a1 0 0 0 0 0) _ (((((x10.setCell ⟨m, 5, none⟩ (.int .i64 k1)).setCell ⟨m, 6, none⟩ (.int .i64 m1)).setCell ⟨m, 7, none⟩ (.int .i64 q1)).setCell ⟨m, 8, none⟩ (.int .i64 d1)).setCell ⟨m, 9, none⟩ (.int .i64 a1)) from (((((S10.out.s5 k1).s6 m1).s7 q1).s8 d1).s9 a1))
      have c5 := cell_of (j := 5) S10.out.b1 rfl
      have c6 := cell_of (j := 6) S10.out.b1 rfl
      have c7 := cell_of (j := 7) S10.out.b1 rfl
      have c8 := cell_of (j := 8) S10.out.b1 rfl
      have c9 := cell_of (j := 9) S10.out.b1 rfl
      have f1 := fro_of S10.out.b1
      go_wp2_with fail
      clear c5 c6 c7 c8 c9 f1
      clear S10
      generalize (((((x10.setCell ⟨m, 5, none⟩ (.int .i64 k1)).setCell ⟨m, 6, none⟩ (.int .i64 m1)).setCell ⟨m, 7, none⟩ (.int .i64 q1)).setCell ⟨m, 8, none⟩ (.int .i64 d1)).setCell ⟨m, 9, none⟩ (.int .i64 a1)) = x11 at *
      refine (rule_any lg _ _ S11.out.rd (by omega)).mono ?_
      rintro e x12 ⟨rfl, o, r⟩
      have S12 := Lib.hid (S11.out.step o r); clear o r S11
      rcases hr2 : rul lg with ⟨⟨k2, m2, q2, d2, a2⟩, lh⟩
      rw [hr2] at S12 RE4
      have RE5 := Lib.hid (show red l = ⟨s, off, true, d, av, ⟨k1, m1, q1, d1, a1⟩, ⟨k2, m2, q2, d2, a2⟩⟩ from RE4.out); clear RE4 hr2
      have S13 := Lib.hid (show Sz m w (zo15 s off true d av k1 m1 q1 d1 a1 k2 m2 q2 d2 a2) _ (((((x12.setCell ⟨m, 10, none⟩ (.int .i64 k2)).setCell ⟨m, 11, none⟩ (.int .i64 m2)).setCell ⟨m, 12, none⟩ (.int .i64 q2)).setCell ⟨m, 13, none⟩ (.int .i64 d2)).setCell ⟨m, 14, none⟩ (.int .i64 a2)) from (((((S12.out.s10 k2).s11 m2).s12 q2).s13 d2).s14 a2))
      have c10 := cell_of (j := 10) S12.out.b1 rfl
      have c11 := cell_of (j := 11) S12.out.b1 rfl
      have c12 := cell_of (j := 12) S12.out.b1 rfl
      have c13 := cell_of (j := 13) S12.out.b1 rfl
      have c14 := cell_of (j := 14) S12.out.b1 rfl
      have f1 := fro_of S12.out.b1
      have n1 : ¬ w.heap.size = m := by have := S12.out.lo; omega
      have n2 : ¬ m = w.heap.size := by omega
      have n3 : ¬ w.heap.size + 1 = m := by have := S12.out.lo; omega
      have n4 : ¬ m = w.heap.size + 1 := by omega
      go_upto_region 13 with (fail)
      clear n1 n2 n3 n4
      clear c10 c11 c12 c13 c14 f1
      clear S12
      generalize (((((x12.setCell ⟨m, 10, none⟩ (.int .i64 k2)).setCell ⟨m, 11, none⟩ (.int .i64 m2)).setCell ⟨m, 12, none⟩ (.int .i64 q2)).setCell ⟨m, 13, none⟩ (.int .i64 d2)).setCell ⟨m, 14, none⟩ (.int .i64 a2)) = x13 at *
      go_step
      refine wpList_load_row rfl 25 _ rfl m rfl 25 _ (0, 0) _ S13.out.b1 Tryd.underlying25 rfl (by kernel_rfl) ?_
      refine wpList_store_row rfl 25 _ _ rfl w.heap.size _ rfl rfl 25 _ S13.out.b0 (by kernel_rfl) rfl (zo15_one _ _ _ _ _ _ _ _ _ _ _ _ _ _ _) ?_
      go_wp2
      rw [RE5.out]
      exact bodyPost_ret (v := zoV ⟨s, off, true, d, av, ⟨k1, m1, q1, d1, a1⟩, ⟨k2, m2, q2, d2, a2⟩⟩) (results_cell_row Tryd.results31 _ _ w.heap.size 25 _ (0, 0) _ rfl (setRow_heap _ _ _ _ _ _ S13.out.b0) Tryd.underlying25 rfl (by kernel_rfl)) rfl ⟨rfl, S13.out.k.setRow (Nat.le_refl _) _⟩
end Go.Proofs.YtomnjdammfiadaaDoor
