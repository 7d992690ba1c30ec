/- Contracts of package stamp: a whole text is read, and parsed. -/
import Derived.Test.YtlmjopembcifiaaDoorStCatch
namespace Go.Proofs.YtlmjopembcifiaaDoor
open Go.ChangeShapes Go.WideShapes Go.ChangeAt Go.RowKit
open Civ
/-- within a reading: the three results' blocks, and the reader behind them -/
structure Rd (n : Nat) (w : World) (cs : Array Value) (a e : Int) (l : List UInt8) (x : World) : Prop where
  kt : KeptTo n w x
  b0 : x.heap[n]? = some (.cells cs 23)
  b1 : x.heap[n + 1]? = some (.cells #[.int .i64 a] 3)
  b2 : x.heap[n + 1 + 1]? = some (.cells #[.int .i64 e] 25)
  lt : n + 1 + 1 + 1 < x.heap.size
  left : x.cell? ⟨n + 1 + 1 + 1, 0, none⟩ = some (.string ⟨l.toArray⟩)
  fro : x.frozen? ⟨n + 1 + 1 + 1, 0, none⟩ = false
theorem Rd.only {n : Nat} {w x x' : World} {cs : Array Value} {a e : Int} {l r : List UInt8} (h : Rd n w cs a e l x) (ho : Only (n + 1 + 1 + 1) x x') (hc : x'.cell? ⟨n + 1 + 1 + 1, 0, none⟩ = some (.string ⟨r.toArray⟩)) : Rd n w cs a e r x' :=
  ⟨h.kt.trans (KeptTo.of_only ho (by omega) (by have := h.lt; omega)), (ho.block n (by have := h.lt; omega) (by omega)).trans h.b0, (ho.block (n + 1) (by have := h.lt; omega) (by omega)).trans h.b1, (ho.block (n + 1 + 1) (by have := h.lt; omega) (by omega)).trans h.b2, Nat.lt_of_lt_of_le h.lt ho.size, hc, ho.frozen.trans h.fro⟩
/-- the same, where what is left of the text is not asked -/
structure Tri (n : Nat) (w : World) (cs : Array Value) (a e : Int) (x : World) : Prop where
  kt : KeptTo n w x
  b0 : x.heap[n]? = some (.cells cs 23)
  b1 : x.heap[n + 1]? = some (.cells #[.int .i64 a] 3)
  b2 : x.heap[n + 1 + 1]? = some (.cells #[.int .i64 e] 25)
  lt : n + 1 + 1 + 1 < x.heap.size
theorem Rd.out {n : Nat} {w x x' : World} {cs : Array Value} {a e : Int} {l : List UInt8} (h : Rd n w cs a e l x) (ho : Only (n + 1 + 1 + 1) x x') : Tri n w cs a e x' :=
  ⟨h.kt.trans (KeptTo.of_only ho (by omega) (by have := h.lt; omega)), (ho.block n (by have := h.lt; omega) (by omega)).trans h.b0, (ho.block (n + 1) (by have := h.lt; omega) (by omega)).trans h.b1, (ho.block (n + 1 + 1) (by have := h.lt; omega) (by omega)).trans h.b2, Nat.lt_of_lt_of_le h.lt ho.size⟩
theorem cell_of {x : World} {n j : Nat} {cs : Array Value} {t : TypeId} {v : Value} (h : x.heap[n]? = some (.cells cs t)) (hv : cs[j]? = some v) : x.cell? ⟨n, j, none⟩ = some v := by
  simp [World.cell?, h, hv]
theorem fro_of {x : World} {n : Nat} {cs : Array Value} {t : TypeId} (h : x.heap[n]? = some (.cells cs t)) (j : Nat) : x.frozen? ⟨n, j, none⟩ = false := by
  simp [World.frozen?, h]
theorem block_set {x : World} {n j : Nat} {cs : Array Value} {t : TypeId} (h : x.heap[n]? = some (.cells cs t)) (v : Value) : (x.setCell ⟨n, j, none⟩ v).heap[n]? = some (.cells (cs.setIfInBounds j v) t) := by
  simp [World.setCell, Array.getElem?_modify, h]
theorem Rd.putc {n : Nat} {w x : World} {cs : Array Value} {a e : Int} {l : List UInt8} (h : Rd n w cs a e l x) (j : Nat) (v : Value) : Rd n w (cs.setIfInBounds j v) a e l (x.setCell ⟨n, j, none⟩ v) := by
  have q : ∀ k, k ≠ n → (x.setCell ⟨n, j, none⟩ v).heap[k]? = x.heap[k]? := fun k hk => Below.heap_setCell _ _ _ _ hk
  refine ⟨h.kt.set (Nat.le_refl _) _, block_set h.b0 v, (q _ (by omega)).trans h.b1, (q _ (by omega)).trans h.b2, by simpa [World.setCell] using h.lt, ?_, (World.frozen?_setCell _ _ _ _).trans h.fro⟩
  have := h.left
  unfold World.cell? at this ⊢
  rw [q (n + 1 + 1 + 1) (by omega)]; exact this
theorem Rd.puta {n : Nat} {w x : World} {cs : Array Value} {a e : Int} {l : List UInt8} (h : Rd n w cs a e l x) (a' : Int) : Rd n w cs a' e l (x.setCell ⟨n + 1, 0, none⟩ (.int .i64 a')) := by
  have q : ∀ k, k ≠ n + 1 → (x.setCell ⟨n + 1, 0, none⟩ (.int .i64 a')).heap[k]? = x.heap[k]? := fun k hk => Below.heap_setCell _ _ _ _ hk
  refine ⟨h.kt.set (a := ⟨n + 1, 0, none⟩) (Nat.le_succ _) _, (q _ (by omega)).trans h.b0, block_set h.b1 _, (q _ (by omega)).trans h.b2, by simpa [World.setCell] using h.lt, ?_, (World.frozen?_setCell _ _ _ _).trans h.fro⟩
  have := h.left
  unfold World.cell? at this ⊢
  rw [q (n + 1 + 1 + 1) (by omega)]; exact this
theorem Rd.pute {n : Nat} {w x : World} {cs : Array Value} {a e : Int} {l : List UInt8} (h : Rd n w cs a e l x) (e' : Int) : Tri n w cs a e' (x.setCell ⟨n + 1 + 1, 0, none⟩ (.int .i64 e')) := by
  have q : ∀ k, k ≠ n + 1 + 1 → (x.setCell ⟨n + 1 + 1, 0, none⟩ (.int .i64 e')).heap[k]? = x.heap[k]? := fun k hk => Below.heap_setCell _ _ _ _ hk
  exact ⟨h.kt.set (a := ⟨n + 1 + 1, 0, none⟩) (by show n ≤ n + 1 + 1; omega) _, (q _ (by omega)).trans h.b0, (q _ (by omega)).trans h.b1, block_set h.b2 _, by simpa [World.setCell] using h.lt⟩
theorem Tri.kept {n : Nat} {w x x' : World} {cs : Array Value} {a e : Int} (h : Tri n w cs a e x) (k : Kept x.drew x') : Tri n w cs a e x' :=
  have lt := h.lt
  ⟨h.kt.trans ⟨k.os, k.output, k.size, fun i hi => k.block i (by show i < x.heap.size; omega)⟩, (k.block n (by show n < x.heap.size; omega)).trans h.b0, (k.block (n + 1) (by show n + 1 < x.heap.size; omega)).trans h.b1, (k.block (n + 1 + 1) (by show n + 1 + 1 < x.heap.size; omega)).trans h.b2, Nat.lt_of_lt_of_le h.lt k.size⟩
/-- a whole text -/
def rread (l : List UInt8) : Option ((Int × Int × Int × Int × Int × Int) × Int) :=
  (rciv l).bind fun a => (rfrac a.2).bind fun l2 => (rzone l2).bind fun z => if z.2 = [] then some (a.1, z.1) else none
def ReadPost (o : Option ((Int × Int × Int × Int × Int × Int) × Int)) (w : World) (e : Ending) (w' : World) : Prop :=
  match o with
  | none => e = .returned (.tuple #[civ 0 0 0 0 0 0, .int .i64 0, .int .i64 2]) ∧ Kept w w'
  | some ((y, m, d, h, i, s), a) => e = .returned (.tuple #[civ y m d h i s, .int .i64 a, .int .i64 0]) ∧ Kept w w'
theorem kept_to {w w' : World} (h : KeptTo w.heap.size w w') : Kept w w' := ⟨h.os, h.output, h.size, h.block⟩
theorem read_results (n : Nat) (y m d h i s a e : Int) (tmps : Array Value) (x : World) (h2 : tmps[2]? = some (.pointer (some ⟨n, 0, none⟩))) (h3 : tmps[3]? = some (.pointer (some ⟨n + 1, 0, none⟩))) (h4 : tmps[4]? = some (.pointer (some ⟨n + 1 + 1, 0, none⟩)))
    (c0 : x.cell? ⟨n, 0, none⟩ = some (.int .i64 y)) (c1 : x.cell? ⟨n, 1, none⟩ = some (.int .i64 m)) (c2 : x.cell? ⟨n, 2, none⟩ = some (.int .i64 d))
    (c3 : x.cell? ⟨n, 3, none⟩ = some (.int .i64 h)) (c4 : x.cell? ⟨n, 4, none⟩ = some (.int .i64 i)) (c5 : x.cell? ⟨n, 5, none⟩ = some (.int .i64 s))
    (c6 : x.cell? ⟨n + 1, 0, none⟩ = some (.int .i64 a)) (c7 : x.cell? ⟨n + 1 + 1, 0, none⟩ = some (.int .i64 e)) :
    (results Tryd.f40 tmps).run Tryd.prog x = .ok (.tuple #[civ y m d h i s, .int .i64 a, .int .i64 e]) x := by
  simp [results, Tryd.results40, go_sem, *]
set_option maxRecDepth 100000 in
/-- a reading that panics is caught -/
theorem read_out {w x : World} {y m d h i s a e : Int} (T : Tri w.heap.size w #[.int .i64 y, .int .i64 m, .int .i64 d, .int .i64 h, .int .i64 i, .int .i64 s] a e x) (tmps : Array Value)
    (h2 : tmps[2]? = some (.pointer (some ⟨w.heap.size, 0, none⟩))) (h3 : tmps[3]? = some (.pointer (some ⟨w.heap.size + 1, 0, none⟩))) (h4 : tmps[4]? = some (.pointer (some ⟨w.heap.size + 1 + 1, 0, none⟩))) :
    Leaves Tryd.prog Tryd.f40 tmps (ReadPost none w) [{ target := .fn (.func 55) #[.pointer (some ⟨w.heap.size, 0, none⟩), .pointer (some ⟨w.heap.size + 1, 0, none⟩), .pointer (some ⟨w.heap.size + 1 + 1, 0, none⟩)], args := #[] }] (.panicking [{ v := faultV, recovered := false }]) x := by
  refine leaves_cons (f := 55) (args := #[.pointer (some ⟨w.heap.size, 0, none⟩), .pointer (some ⟨w.heap.size + 1, 0, none⟩), .pointer (some ⟨w.heap.size + 1 + 1, 0, none⟩)]) (by simp) (by simp [go_sem]) ?_
  refine (catch_panicking w.heap.size y m d h i s a e x (by have := T.lt; omega) (cell_of T.b0 rfl) (cell_of T.b0 rfl) (cell_of T.b0 rfl) (cell_of T.b0 rfl) (cell_of T.b0 rfl) (cell_of T.b0 rfl) (cell_of T.b1 rfl) (cell_of T.b2 rfl) (fro_of T.b0) (fro_of T.b1 0) (fro_of T.b2 0)).mono ?_
  rintro e u' w'' ⟨rfl, rfl, k, hz, z1, z2⟩
  show Leaves Tryd.prog Tryd.f40 tmps (ReadPost none w) [] .returning w''
  exact ⟨_, read_results w.heap.size 0 0 0 0 0 0 0 2 tmps w'' h2 h3 h4 (hz 0 (by omega)) (hz 1 (by omega)) (hz 2 (by omega)) (hz 3 (by omega)) (hz 4 (by omega)) (hz 5 (by omega)) z1 z2, rfl, kept_to (T.kt.trans k)⟩
set_option maxRecDepth 100000 in
/-- a reading that ends -/
theorem read_done {w x : World} {y m d h i s a : Int} (T : Tri w.heap.size w #[.int .i64 y, .int .i64 m, .int .i64 d, .int .i64 h, .int .i64 i, .int .i64 s] a 0 x) (tmps : Array Value)
    (h2 : tmps[2]? = some (.pointer (some ⟨w.heap.size, 0, none⟩))) (h3 : tmps[3]? = some (.pointer (some ⟨w.heap.size + 1, 0, none⟩))) (h4 : tmps[4]? = some (.pointer (some ⟨w.heap.size + 1 + 1, 0, none⟩))) :
    Leaves Tryd.prog Tryd.f40 tmps (ReadPost (some ((y, m, d, h, i, s), a)) w) [{ target := .fn (.func 55) #[.pointer (some ⟨w.heap.size, 0, none⟩), .pointer (some ⟨w.heap.size + 1, 0, none⟩), .pointer (some ⟨w.heap.size + 1 + 1, 0, none⟩)], args := #[] }] .returning x.drew := by
  refine leaves_cons (f := 55) (args := #[.pointer (some ⟨w.heap.size, 0, none⟩), .pointer (some ⟨w.heap.size + 1, 0, none⟩), .pointer (some ⟨w.heap.size + 1 + 1, 0, none⟩)]) (by simp) (by simp [go_sem]) ?_
  refine (catch_idle _ _ _ _).mono ?_
  rintro e u' w'' ⟨rfl, rfl, kc⟩
  show Leaves Tryd.prog Tryd.f40 tmps (ReadPost (some ((y, m, d, h, i, s), a)) w) [] .returning w''
  have kd := T.kept kc
  exact ⟨_, read_results w.heap.size y m d h i s a 0 tmps w'' h2 h3 h4 (cell_of kd.b0 rfl) (cell_of kd.b0 rfl) (cell_of kd.b0 rfl) (cell_of kd.b0 rfl) (cell_of kd.b0 rfl) (cell_of kd.b0 rfl) (cell_of kd.b1 rfl) (cell_of kd.b2 rfl), rfl, kept_to kd.kt⟩
theorem rd_start (l : List UInt8) (w : World) : Rd w.heap.size w #[.int .i64 0, .int .i64 0, .int .i64 0, .int .i64 0, .int .i64 0, .int .i64 0] 0 0 l
    ((((w.alloc (.cells #[.int .i64 0, .int .i64 0, .int .i64 0, .int .i64 0, .int .i64 0, .int .i64 0] 23)).alloc (.cells #[.int .i64 0] 3)).alloc (.cells #[.int .i64 0] 25)).alloc (.cells #[.string ⟨l.toArray⟩] 78)) := by
  have q : ∀ (A B C D : Obj), ((((w.alloc A).alloc B).alloc C).alloc D).heap = (((w.heap.push A).push B).push C).push D := fun _ _ _ _ => rfl
  refine ⟨((((KeptTo.refl _ w).alloc (by simp) _).alloc (by simp) _).alloc (by simp; omega) _).alloc (by simp; omega) _, ?_, ?_, ?_, ?_, ?_, ?_⟩
  · rw [q, Array.getElem?_push, if_neg (by simp; omega), Array.getElem?_push, if_neg (by simp; omega), Array.getElem?_push, if_neg (by simp), Array.getElem?_push, if_pos rfl]
  · rw [q, Array.getElem?_push, if_neg (by simp), Array.getElem?_push, if_neg (by simp), Array.getElem?_push, if_pos (by simp)]
  · rw [q, Array.getElem?_push, if_neg (by simp), Array.getElem?_push, if_pos (by simp)]
  · rw [q]; simp
  · unfold World.cell?; rw [q, Array.getElem?_push, if_pos (by simp)]; rfl
  · unfold World.frozen?; rw [q, Array.getElem?_push, if_pos (by simp)]; rfl
set_option maxRecDepth 100000 in
set_option maxHeartbeats 2000000 in
theorem read_any (l : List UInt8) (w : World) : Calls Tryd.prog 40 #[.string ⟨l.toArray⟩] w (ReadPost (rread l) w) := by
  have hmf : ∀ (fn : Fn) (first cap : Array Value) (w : World), (Instr.makeFunc fn first cap).run Tryd.prog w = .ok (.func fn first cap) w := fun _ _ _ _ => rfl
  have R0 := Lib.hid (rd_start l w)
  go_enter_defers Tryd.func40, Tryd.ntmps40
  go_wp2_with fail
  generalize (((w.alloc (.cells #[.int .i64 0, .int .i64 0, .int .i64 0, .int .i64 0, .int .i64 0, .int .i64 0] 23)).alloc (.cells #[.int .i64 0] 3)).alloc (.cells #[.int .i64 0] 25)).alloc (.cells #[.string ⟨l.toArray⟩] 78) = x0 at *
  refine (civ_any l _ _ R0.out.lt R0.out.left R0.out.fro).mono ?_
  intro e x1 hp
  rcases h1 : rciv l with _ | ⟨⟨y, m, d, h, i, s⟩, l1⟩
  · rw [h1] at hp
    obtain ⟨rfl, ho⟩ := hp
    show Leaves _ _ _ (ReadPost (rread l) w) _ _ _
    rw [show rread l = none by simp only [rread, h1, Option.bind_none]]
    exact read_out (R0.out.out ho) _ rfl rfl rfl
  rw [h1] at hp
  obtain ⟨rfl, ho, hc⟩ := hp
  have R1 := Lib.hid (R0.out.only ho hc)
  clear R0 ho hc
  have H1 := Lib.hid h1; clear h1
  have c0 := cell_of (j := 0) R1.out.b0 rfl
  have c1 := cell_of (j := 1) R1.out.b0 rfl
  have c2 := cell_of (j := 2) R1.out.b0 rfl
  have c3 := cell_of (j := 3) R1.out.b0 rfl
  have c4 := cell_of (j := 4) R1.out.b0 rfl
  have c5 := cell_of (j := 5) R1.out.b0 rfl
  have f0 := fro_of R1.out.b0
  have R2 := Lib.hid (show Rd w.heap.size w #[.int .i64 y, .int .i64 m, .int .i64 d, .int .i64 h, .int .i64 i, .int .i64 s] 0 0 l1 _ from (((((R1.out.putc 0 (.int .i64 y)).putc 1 (.int .i64 m)).putc 2 (.int .i64 d)).putc 3 (.int .i64 h)).putc 4 (.int .i64 i)).putc 5 (.int .i64 s))
  go_wp2_with fail
  clear c0 c1 c2 c3 c4 c5 f0 R1
  generalize (((((x1.setCell ⟨w.heap.size, 0, none⟩ (.int .i64 y)).setCell ⟨w.heap.size, 1, none⟩ (.int .i64 m)).setCell ⟨w.heap.size, 2, none⟩ (.int .i64 d)).setCell ⟨w.heap.size, 3, none⟩ (.int .i64 h)).setCell ⟨w.heap.size, 4, none⟩ (.int .i64 i)).setCell ⟨w.heap.size, 5, none⟩ (.int .i64 s) = x2 at *
  refine (frac_any l1 _ _ R2.out.lt R2.out.left R2.out.fro).mono ?_
  intro e x3 hp
  rcases h2 : rfrac l1 with _ | l2
  · rw [h2] at hp
    obtain ⟨rfl, ho⟩ := hp
    show Leaves _ _ _ (ReadPost (rread l) w) _ _ _
    rw [show rread l = none by simp only [rread, H1.out, h2, Option.bind_none, Option.bind_some]]
    exact read_out (R2.out.out ho) _ rfl rfl rfl
  rw [h2] at hp
  obtain ⟨rfl, ho, hc⟩ := hp
  have R3 := Lib.hid (R2.out.only ho hc)
  clear R2 ho hc
  have H2 := Lib.hid h2; clear h2
  go_wp2_with fail
  refine (ahead_any l2 _ _ R3.out.left R3.out.fro).mono ?_
  intro e x4 hp
  rcases h3 : rzone l2 with _ | ⟨z, l3⟩
  · rw [h3] at hp
    obtain ⟨rfl, ho⟩ := hp
    show Leaves _ _ _ (ReadPost (rread l) w) _ _ _
    rw [show rread l = none by simp only [rread, H1.out, H2.out, h3, Option.bind_none, Option.bind_some]]
    exact read_out (R3.out.out ho) _ rfl rfl rfl
  rw [h3] at hp
  obtain ⟨rfl, ho, hc⟩ := hp
  have R4 := Lib.hid (R3.out.only ho hc)
  clear R3 ho hc
  have H3 := Lib.hid h3; clear h3
  have c6 := cell_of (j := 0) R4.out.b1 rfl
  have f1 := fro_of R4.out.b1 0
  have R5 := Lib.hid (R4.out.puta z)
  have c8 := R5.out.left
  cases l3 with
  | cons b r =>
    go_wp2
    show Leaves _ _ _ (ReadPost (rread l) w) _ _ _
    rw [show rread l = none by simp only [rread, H1.out, H2.out, H3.out, Option.bind_some]; rw [if_neg (by simp)]]
    exact read_out ⟨R5.out.kt, R5.out.b0, R5.out.b1, R5.out.b2, R5.out.lt⟩ _ rfl rfl rfl
  | nil =>
    have HR := Lib.hid (show rread l = some ((y, m, d, h, i, s), z) by simp only [rread, H1.out, H2.out, H3.out, Option.bind_some, if_true])
    go_wp2_with fail
    clear c6 f1 R4
    generalize x4.setCell ⟨w.heap.size + 1, 0, none⟩ (.int .i64 z) = x5 at *
    have c0 := cell_of (j := 0) R5.out.b0 rfl
    have c1 := cell_of (j := 1) R5.out.b0 rfl
    have c2 := cell_of (j := 2) R5.out.b0 rfl
    have c3 := cell_of (j := 3) R5.out.b0 rfl
    have c4 := cell_of (j := 4) R5.out.b0 rfl
    have c5 := cell_of (j := 5) R5.out.b0 rfl
    have f0 := fro_of R5.out.b0
    have c6 := cell_of (j := 0) R5.out.b1 rfl
    have f1 := fro_of R5.out.b1 0
    have c7 := cell_of (j := 0) R5.out.b2 rfl
    have f2 := fro_of R5.out.b2 0
    have R7 := Lib.hid (show Tri w.heap.size w #[.int .i64 y, .int .i64 m, .int .i64 d, .int .i64 h, .int .i64 i, .int .i64 s] z 0 _ from (((((((R5.out.putc 0 (.int .i64 y)).putc 1 (.int .i64 m)).putc 2 (.int .i64 d)).putc 3 (.int .i64 h)).putc 4 (.int .i64 i)).putc 5 (.int .i64 s)).puta z).pute 0)
    clear R5
    go_region
    go_wp2
    clear c0 c1 c2 c3 c4 c5 c6 c7 c8 f0 f1 f2
    show Leaves _ _ _ (ReadPost (rread l) w) _ _ _
    rw [HR.out]
    exact read_done R7.out _ rfl rfl rfl
/-- the second that a text is -/
noncomputable def rparse (l : List UInt8) : Option Int :=
  (rread l).bind fun p => if mayB p.1.1 p.1.2.1 p.1.2.2.1 p.1.2.2.2.1 p.1.2.2.2.2.1 p.1.2.2.2.2.2 = true then some (sec p.1.1 p.1.2.1 p.1.2.2.1 p.1.2.2.2.1 p.1.2.2.2.2.1 p.1.2.2.2.2.2 - p.2) else none
def ParsePost (o : Option Int) (w : World) (e : Ending) (w' : World) : Prop :=
  match o with
  | none => e = .returned (.tuple #[.int .i64 0, .int .i64 2]) ∧ Kept w w'
  | some t => e = .returned (.tuple #[.int .i64 t, .int .i64 0]) ∧ Kept w w'
theorem may_iff {y m d h i s : Int} : mayB y m d h i s = true ↔ okP y m d ∧ tmB h i s = true := by
  unfold mayB okP; rw [Bool.and_eq_true, okB_iff]
theorem rzone_bd {l r : List UInt8} {z : Int} (h : rzone l = some (z, r)) : -86400 < z ∧ z < 86400 := by
  unfold rzone at h
  rcases h1 : rsign [90, 122, 43, 45] l with _ | ⟨c, l1⟩
  · simp [h1] at h
  rw [h1] at h
  simp only [Option.bind_some] at h
  split at h
  · cases h; omega
  rcases h2 : rnum 2 0 l1 with _ | ⟨a, l2⟩
  · simp [h2] at h
  rcases h3 : rsign [58] l2 with _ | ⟨b, l3⟩
  · simp [h2, h3] at h
  rcases h4 : rnum 2 0 l3 with _ | ⟨m, l4⟩
  · simp [h2, h3, h4] at h
  rw [h2] at h
  simp only [Option.bind_some, h3, h4] at h
  split at h
  · rename_i ht
    have := tm_bd ht
    split at h <;> cases h <;> omega
  · cases h
theorem rread_bd {l : List UInt8} {p : Int × Int × Int × Int × Int × Int} {z : Int} (h : rread l = some (p, z)) : -86400 < z ∧ z < 86400 := by
  unfold rread at h
  rcases h1 : rciv l with _ | ⟨c, l1⟩
  · simp [h1] at h
  rcases h2 : rfrac l1 with _ | l2
  · simp [h1, h2] at h
  rcases h3 : rzone l2 with _ | ⟨z', l3⟩
  · simp [h1, h2, h3] at h
  rw [h1] at h
  simp only [Option.bind_some, h2, h3] at h
  split at h
  · cases h; exact rzone_bd h3
  · cases h
set_option maxHeartbeats 1000000 in
theorem parse_any (l : List UInt8) (w : World) : Calls Tryd.prog 22 #[.string ⟨l.toArray⟩] w (ParsePost (rparse l) w) := by
  go_enter Tryd.func22, Tryd.ntmps22
  go_wp2_with fail
  refine (read_any l _).mono ?_
  intro e w1 hp
  rcases h1 : rread l with _ | ⟨⟨y, m, d, h, i, s⟩, z⟩
  · rw [h1] at hp
    obtain ⟨rfl, k1⟩ := hp
    have HR := Lib.hid (show rparse l = none by simp only [rparse, h1, Option.bind_none])
    clear h1
    go_wp2
    go_ret2
    rw [HR.out]
    exact ⟨rfl, k1.alloc _⟩
  rw [h1] at hp
  obtain ⟨rfl, k1⟩ := hp
  obtain ⟨z1, z2⟩ := rread_bd h1
  have H1 := Lib.hid h1; clear h1
  by_cases hm : okP y m d ∧ tmB h i s = true
  · have HR := Lib.hid (show rparse l = some (sec y m d h i s - z) by simp only [rparse, H1.out, Option.bind_some]; rw [if_pos (may_iff.2 hm)])
    obtain ⟨o1, o2⟩ := ord_bd hm.1
    obtain ⟨a1, a2, a3, a4, a5, a6⟩ := tm_bd hm.2
    have s1 : -62135596800 ≤ sec y m d h i s := by unfold sec; omega
    have s2 : sec y m d h i s ≤ 253402300799 := by unfold sec; omega
    have HM := Lib.hid hm; clear hm
    clear o1 o2 a1 a2 a3 a4 a5 a6
    go_wp2_with fail
    refine (of_yes y m d h i s _ HM.out.1 HM.out.2).mono ?_
    rintro e w2 ⟨rfl, k2⟩
    go_wp2
    go_ret2
    rw [HR.out]
    exact ⟨rfl, k1.trans k2.back⟩
  · have HR := Lib.hid (show rparse l = none by simp only [rparse, H1.out, Option.bind_some]; rw [if_neg (fun h => hm (may_iff.1 h))])
    have HM := Lib.hid hm; clear hm
    go_wp2_with fail
    refine (of_not y m d h i s _ HM.out).mono ?_
    rintro e w2 ⟨rfl, k2⟩
    go_wp2
    go_ret2
    rw [HR.out]
    exact ⟨rfl, k1.trans k2.back⟩
end Go.Proofs.YtlmjopembcifiaaDoor
