/- Contracts of package local: the turns of years, told by a function to range over. -/
import Derived.Test.YtcgmefojokndhaaLcDay
import Derived.RangeFuncNested
import Derived.RangeFuncBound
import Derived.RangeFuncCalls
import Derived.RangeFuncLeaves
import Derived.RangeFuncOne
import Derived.Shelf.Abstract
import Derived.Shelf.RegionOpen
import Derived.OwnWalkIn
import Derived.TacticsInMore
import Derived.LoopNIn
import Derived.LoopIn
namespace Go.Proofs.Ytcgmefojokndhaa
open Go.ChangeShapes Go.WideShapes Go.ChangeAt Go.RowKit Go.Shelf
open Civ Zn Lc
attribute [local go_sem] Oper.semAt_some
/-- an integer in a block of its own -/
def Bi (b : Nat) (v : Int) (x : World) : Prop := x.heap[b]? = some (.cells #[.int .i64 v] 3)
theorem Bi.lt {b : Nat} {v : Int} {x : World} (h : Bi b v x) : b < x.heap.size := (Array.getElem?_eq_some_iff.1 h).1
theorem Bi.kept {b : Nat} {v : Int} {x x' : World} (h : Bi b v x) (k : Kept x x') : Bi b v x' := (k.block b h.lt).trans h
theorem Bi.c {b : Nat} {v : Int} {x : World} (h : Bi b v x) : x.cell? ⟨b, 0, none⟩ = some (.int .i64 v) := by unfold Bi at h; simp [World.cell?, h]
theorem bi_new (w : World) (v : Int) : Bi w.heap.size v (w.alloc (.cells #[.int .i64 v] 3)) := by
  show (w.heap.push _)[w.heap.size]? = _
  simp
/-- the function to range over: where its variables lie -/
def IterPost (z : Zo) (a b : Int) (w : World) (e : Ending) (w' : World) : Prop :=
  ∃ n f g : Nat, e = .returned (.func (.func 79) #[] #[.pointer (some ⟨f, 0, none⟩), .pointer (some ⟨g, 0, none⟩), .pointer (some ⟨n, 0, none⟩)]) ∧ Bz n z w' ∧ Bi f a w' ∧ Bi g b w' ∧ Kept w w' ∧ w.heap.size ≤ n ∧ w.heap.size ≤ f ∧ w.heap.size ≤ g
set_option maxRecDepth 100000 in
set_option maxHeartbeats 1000000 in
theorem years_any (z : Zo) (a b : Int) (w : World) : Calls Try.prog 73 #[zoV z, .int .i64 a, .int .i64 b] w (IterPost z a b w) := by
  have B0 := Lib.hid (bz_new w z)
  have K0 := Lib.hid ((Kept.refl w).alloc (.cells (zo15 z.std z.off z.has z.dst z.ahead z.fr.k z.fr.m z.fr.w z.fr.d z.fr.a z.to.k z.to.m z.to.w z.to.d z.to.a) 25))
  go_enter Try.func73, Try.ntmps73
  go_upto_region 1 with (fail)
  generalize hx : w.alloc (.cells (zo15 z.std z.off z.has z.dst z.ahead z.fr.k z.fr.m z.fr.w z.fr.d z.fr.a z.to.k z.to.m z.to.w z.to.d z.to.a) 25) = x at *
  have s1 : x.heap.size = w.heap.size + 1 := by rw [← hx]; simp
  clear hx
  have b1 := bi_new x a
  have k1 := (Kept.refl x).alloc (.cells #[.int .i64 a] 3)
  rw [s1] at b1
  generalize hy : x.alloc (.cells #[.int .i64 a] 3) = y at *
  have s2 : y.heap.size = w.heap.size + 1 + 1 := by rw [← hy]; simp [s1]
  clear hy
  have b2 := bi_new y b
  have k2 := (Kept.refl y).alloc (.cells #[.int .i64 b] 3)
  rw [s2] at b2
  generalize y.alloc (.cells #[.int .i64 b] 3) = u at *
  have P := Lib.hid (show Bz w.heap.size z u ∧ Bi (w.heap.size + 1) a u ∧ Bi (w.heap.size + 1 + 1) b u ∧ Kept w u from
    ⟨(B0.out.kept k1).kept k2, b1.kept k2, b2, (K0.out.trans k1).trans k2⟩)
  clear b1 b2 k1 k2
  go_wp2
  go_ret
  exact ⟨_, _, _, rfl, P.out.1, P.out.2.1, P.out.2.2.1, P.out.2.2.2, by omega, by omega, by omega⟩
set_option maxRecDepth 100000 in
set_option maxHeartbeats 1000000 in
theorem around_any (z : Zo) (t : Int) (w : World) (ht : scB t = true) : Calls Try.prog 64 #[zoV z, .int .i64 t] w (IterPost z (yr (t / 86400) - 2) (yr (t / 86400) + 1) w) := by
  have B0 := Lib.hid (bz_new w z)
  have K0 := Lib.hid ((Kept.refl w).alloc (.cells (zo15 z.std z.off z.has z.dst z.ahead z.fr.k z.fr.m z.fr.w z.fr.d z.fr.a z.to.k z.to.m z.to.w z.to.d z.to.a) 25))
  have hc : inCal t := by simp [scB] at ht; unfold inCal; omega
  clear ht
  go_enter Try.func64, Try.ntmps64
  go_upto_region 1 with (fail)
  generalize w.alloc (.cells (zo15 z.std z.off z.has z.dst z.ahead z.fr.k z.fr.m z.fr.w z.fr.d z.fr.a z.to.k z.to.m z.to.w z.to.d z.to.a) 25) = x at *
  go_wp2_with fail
  refine (at_yes t _ hc).mono ?_
  rintro e w1 ⟨hD, rfl, k1⟩
  have hy := hD.1.1
  have hy' := hD.1.2.1
  clear hD
  have B1 := Lib.hid (B0.out.kept k1)
  have K1 := Lib.hid (K0.out.trans k1)
  clear B0 K0 k1 hc
  go_upto_region 2 with (fail)
  have k2 := (Kept.refl w1).alloc (.cells #[.int .i64 (yr (t / 86400)), .int .i64 (mo (t / 86400)), .int .i64 (dy (t / 86400)), .int .i64 (t % 86400 / 3600), .int .i64 (t % 3600 / 60), .int .i64 (t % 60)] 35)
  have cy := (Kept.refl (w1.alloc (.cells #[.int .i64 (yr (t / 86400)), .int .i64 (mo (t / 86400)), .int .i64 (dy (t / 86400)), .int .i64 (t % 86400 / 3600), .int .i64 (t % 3600 / 60), .int .i64 (t % 60)] 35))).new 0 rfl
  generalize w1.alloc (.cells #[.int .i64 (yr (t / 86400)), .int .i64 (mo (t / 86400)), .int .i64 (dy (t / 86400)), .int .i64 (t % 86400 / 3600), .int .i64 (t % 3600 / 60), .int .i64 (t % 60)] 35) = w2 at *
  have B2 := Lib.hid (B1.out.kept k2)
  have K2 := Lib.hid (K1.out.trans k2)
  clear B1 K1 k2
  generalize yr (t / 86400) = Y at *
  go_wp2_with (refine wpList_load_row rfl 25 _ rfl w.heap.size rfl 25 _ (0, 0) _ B2.out Try.underlying25 rfl (by kernel_rfl) ?_)
  refine (years_any z (Y - 2) (Y + 1) _).mono ?_
  rintro e w3 ⟨n, f, g, rfl, h1, h2, h3, k3, g1, g2, g3⟩
  go_wp2
  go_ret
  have q := K2.out.size
  exact ⟨n, f, g, rfl, h1, h2, h3, K2.out.trans k3, by omega, by omega, by omega⟩
/-- years, one after another -/
def yrs (a : Int) : Nat → List Int
  | 0 => []
  | k + 1 => yrs a k ++ [a + k]
theorem yrs_len (a : Int) (k : Nat) : (yrs a k).length = k := by
  induction k with
  | zero => rfl
  | succ k ih => simp [yrs, ih]
/-- what a round keeps of the iterator's own -/
def Kp3 (n f g : Nat) (W W' : World) : Prop := W'.heap[n]? = W.heap[n]? ∧ W'.heap[f]? = W.heap[f]? ∧ W'.heap[g]? = W.heap[g]?
theorem kp3_t {n f g : Nat} {A B C : World} (h : Kp3 n f g A B) (k : Kp3 n f g B C) : Kp3 n f g A C := ⟨k.1.trans h.1, k.2.1.trans h.2.1, k.2.2.trans h.2.2⟩
theorem kp3_b {n f g : Nat} {w : World} (h1 : n < w.heap.size) (h2 : f < w.heap.size) (h3 : g < w.heap.size) (W : World) (l : Nat) (o o' : Obj) (hl : w.heap.size ≤ l) (_ : W.heap[l]? = some o) (_ : o.isCells = false) (_ : o.isWalk = false) : Kp3 n f g W (W.putObj l o') :=
  ⟨World.putObj_heap_other (by omega), World.putObj_heap_other (by omega), World.putObj_heap_other (by omega)⟩
theorem kp3_set {n f g : Nat} (W : World) {a : Addr} (v : Value) (h1 : n ≠ a.block) (h2 : f ≠ a.block) (h3 : g ≠ a.block) : Kp3 n f g W (W.setCell a v) :=
  ⟨Below.heap_setCell _ _ _ _ h1, Below.heap_setCell _ _ _ _ h2, Below.heap_setCell _ _ _ _ h3⟩
set_option maxRecDepth 100000 in
set_option maxHeartbeats 2000000 in
theorem turns_stops (m : Nat) (hm : 1 ≤ m) (z : Zo) (hz : mayZ z = true) (hh : z.has = true) (n f g k : Nat) (a : Int) (ha : 1960 ≤ a) (hk : a + k ≤ 10011) (w : World) (Bn : Bz n z w) (Bf : Bi f a w) (Bg : Bi g (a + k - 1) w) :
    SeqStopsK Fence.wide m Try.prog 79 #[.pointer (some ⟨f, 0, none⟩), .pointer (some ⟨g, 0, none⟩), .pointer (some ⟨n, 0, none⟩)] (fun y : Int => #[.int .i64 (fromT z y), .int .i64 (uptoT z y)]) (Kp3 n f g) (fun xs => xs = yrs a k) (fun _ => True) k w := by
  intro l J Jx W hW hJ hJx hY h0
  have HZ := Lib.hid hz; have HH := Lib.hid hh; clear hz hh
  have cf : W.cell? ⟨f, 0, none⟩ = some (.int .i64 a) := (hW.cell (p := ⟨f, 0, none⟩) Bf.lt).trans Bf.c
  refine callsIn_of_wp Try.func79 rfl trivial ?_ rfl
  simp only [Try.ntmps79, List.size_toArray, List.length_cons, List.length_nil, Nat.reduceAdd, Nat.reduceSub, Array.replicate_succ, Array.replicate_zero, List.push_toArray, List.append_toArray, List.nil_append, List.cons_append]
  gi_wp2
  gi_loopw [5] (fun p wr => ∃ j : Nat, j ≤ k ∧ p = .int .i64 (a + j) ∧ J (yrs a j) wr ∧ Kp3 n f g W wr) (fun p _ => (a + k - intOf p).toNat)
  case atStart => exact ⟨0, Nat.zero_le _, by simp, h0, rfl, rfl, rfl⟩
  case round =>
    obtain ⟨j, hj, rfl, hJs, hb⟩ := hrel
    have Zr : Bz n z wr := hb.1.trans ((hW.block n Bn.lt).trans Bn)
    have Gr : Bi g (a + k - 1) wr := hb.2.2.trans ((hW.block g Bg.lt).trans Bg)
    have Fr : Bi f a wr := hb.2.1.trans ((hW.block f Bf.lt).trans Bf)
    have cg := Gr.c
    by_cases hlt : j < k
    · have c0 := Zr.cs.c0
      have c1 := Zr.cs.c1
      have c2 := Zr.cs.c2
      have c3 := Zr.cs.c3
      have c4 := Zr.cs.c4
      have c5 := Zr.cs.c5
      have c6 := Zr.cs.c6
      have c7 := Zr.cs.c7
      have c8 := Zr.cs.c8
      have c9 := Zr.cs.c9
      have c10 := Zr.cs.c10
      have c11 := Zr.cs.c11
      have c12 := Zr.cs.c12
      have c13 := Zr.cs.c13
      have c14 := Zr.cs.c14
      gi_wp2_with (refine ⟨trivial, ?_⟩; gi_at_call 39; refine (callsIn_wide.2 (turnsOf_any z (a + j) _ (by omega) (by omega) HZ.out HH.out)).mono ?_; rintro e w2 ⟨rfl, k2⟩; have J2 := hJ _ wr w2 none hJs (k2.grownBy none) (fun r e => by cases e); obtain ⟨fn, tmps, assign, body, hy, hR⟩ := hY (yrs a j) (a + j) w2 J2 (by rw [yrs_len]; omega))
      refine hR.mono ?_
      rintro e w3 (⟨rfl, J3, k3⟩ | ⟨rfl, Jx3⟩)
      · gi_wp2
        go_roundw
        case rel => exact ⟨j + 1, by omega, by go_num, J3, kp3_t (kp3_t hb ⟨k2.block n Zr.lt, k2.block f Fr.lt, k2.block g Gr.lt⟩) k3⟩
        case measure => simp [intOf]; omega
      · gi_wp2
        refine bodyPost_ret (results_none rfl _ _ _) rfl ?_
        exact ⟨⟨_, rfl⟩, .inr ⟨_, trivial, Jx3⟩⟩
    · obtain rfl : j = k := by omega
      gi_wp2
      go_end0
      exact ⟨⟨_, rfl⟩, .inl ⟨_, rfl, hJs⟩⟩
end Go.Proofs.Ytcgmefojokndhaa
