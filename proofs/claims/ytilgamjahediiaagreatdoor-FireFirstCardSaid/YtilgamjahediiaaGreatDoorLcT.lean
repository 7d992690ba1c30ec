/- Several texts of this seat, one behind the other. -/
import Derived.Test.YtilgamjahediiaaGreatDoorLcP
import Derived.RangeFuncNested
import Derived.RangeFuncBound
import Derived.RangeFuncCalls
import Derived.RangeFuncLeaves
import Derived.RangeFuncOne
import Derived.Shelf.Abstract
import Derived.Shelf.RegionOpen
import Derived.OwnWalkIn
import Derived.TacticsInMore
import Derived.LoopNIn
import Derived.LoopIn
import Derived.Sort.CutIn
/- Contracts of package local: the turns of years, told by a function to range over. -/
namespace Go.Proofs.YtilgamjahediiaaGreatDoor
open Go.ChangeShapes Go.WideShapes Go.ChangeAt Go.RowKit Go.Shelf
open Civ Zn Lc
attribute [local go_sem] Oper.semAt_some
/-- an integer in a block of its own -/
def Bi (b : Nat) (v : Int) (x : World) : Prop := x.heap[b]? = some (.cells #[.int .i64 v] 3)
theorem Bi.lt {b : Nat} {v : Int} {x : World} (h : Bi b v x) : b < x.heap.size := (Array.getElem?_eq_some_iff.1 h).1
theorem Bi.kept {b : Nat} {v : Int} {x x' : World} (h : Bi b v x) (k : Kept x x') : Bi b v x' := (k.block b h.lt).trans h
theorem Bi.c {b : Nat} {v : Int} {x : World} (h : Bi b v x) : x.cell? ⟨b, 0, none⟩ = some (.int .i64 v) := by unfold Bi at h; simp [World.cell?, h]
theorem bi_new (w : World) (v : Int) : Bi w.heap.size v (w.alloc (.cells #[.int .i64 v] 3)) := by
  show (w.heap.push _)[w.heap.size]? = _
  simp
/-- the function to range over: where its variables lie -/
def IterPost (z : Zo) (a b : Int) (w : World) (e : Ending) (w' : World) : Prop :=
  ∃ n f g : Nat, e = .returned (.func (.func 118) #[] #[.pointer (some ⟨f, 0, none⟩), .pointer (some ⟨g, 0, none⟩), .pointer (some ⟨n, 0, none⟩)]) ∧ Bz n z w' ∧ Bi f a w' ∧ Bi g b w' ∧ Kept w w' ∧ w.heap.size ≤ n ∧ w.heap.size ≤ f ∧ w.heap.size ≤ g
set_option maxRecDepth 100000 in
set_option maxHeartbeats 1000000 in
theorem years_any (z : Zo) (a b : Int) (w : World) : Calls Tryz.prog 100 #[zoV z, .int .i64 a, .int .i64 b] w (IterPost z a b w) := by
  have B0 := Lib.hid (bz_new w z)
  have K0 := Lib.hid ((Kept.refl w).alloc (.cells (zo15 z.std z.off z.has z.dst z.ahead z.fr.k z.fr.m z.fr.w z.fr.d z.fr.a z.to.k z.to.m z.to.w z.to.d z.to.a) 25))
  go_enter Tryz.func100, Tryz.ntmps100
  go_upto_region 1 with (fail)
  generalize hx : w.alloc (.cells (zo15 z.std z.off z.has z.dst z.ahead z.fr.k z.fr.m z.fr.w z.fr.d z.fr.a z.to.k z.to.m z.to.w z.to.d z.to.a) 25) = x at *
  have s1 : x.heap.size = w.heap.size + 1 := by rw [← hx]; simp
  clear hx
  have b1 := bi_new x a
  have k1 := (Kept.refl x).alloc (.cells #[.int .i64 a] 3)
  rw [s1] at b1
  generalize hy : x.alloc (.cells #[.int .i64 a] 3) = y at *
  have s2 : y.heap.size = w.heap.size + 1 + 1 := by rw [← hy]; simp [s1]
  clear hy
  have b2 := bi_new y b
  have k2 := (Kept.refl y).alloc (.cells #[.int .i64 b] 3)
  rw [s2] at b2
  generalize y.alloc (.cells #[.int .i64 b] 3) = u at *
  have P := Lib.hid (show Bz w.heap.size z u ∧ Bi (w.heap.size + 1) a u ∧ Bi (w.heap.size + 1 + 1) b u ∧ Kept w u from
    ⟨(B0.out.kept k1).kept k2, b1.kept k2, b2, (K0.out.trans k1).trans k2⟩)
  clear b1 b2 k1 k2
  go_wp2
  go_ret
  exact ⟨_, _, _, rfl, P.out.1, P.out.2.1, P.out.2.2.1, P.out.2.2.2, by omega, by omega, by omega⟩
set_option maxRecDepth 100000 in
set_option maxHeartbeats 1000000 in
theorem around_any (z : Zo) (t : Int) (w : World) (ht : scB t = true) : Calls Tryz.prog 77 #[zoV z, .int .i64 t] w (IterPost z (yr (t / 86400) - 2) (yr (t / 86400) + 1) w) := by
  have B0 := Lib.hid (bz_new w z)
  have K0 := Lib.hid ((Kept.refl w).alloc (.cells (zo15 z.std z.off z.has z.dst z.ahead z.fr.k z.fr.m z.fr.w z.fr.d z.fr.a z.to.k z.to.m z.to.w z.to.d z.to.a) 25))
  have hc : inCal t := by simp [scB] at ht; unfold inCal; omega
  clear ht
  go_enter Tryz.func77, Tryz.ntmps77
  go_upto_region 1 with (fail)
  generalize w.alloc (.cells (zo15 z.std z.off z.has z.dst z.ahead z.fr.k z.fr.m z.fr.w z.fr.d z.fr.a z.to.k z.to.m z.to.w z.to.d z.to.a) 25) = x at *
  go_wp2_with fail
  refine (at_yes t _ hc).mono ?_
  rintro e w1 ⟨hD, rfl, k1⟩
  have hy := hD.1.1
  have hy' := hD.1.2.1
  clear hD
  have B1 := Lib.hid (B0.out.kept k1)
  have K1 := Lib.hid (K0.out.trans k1)
  clear B0 K0 k1 hc
  go_upto_region 2 with (fail)
  have k2 := (Kept.refl w1).alloc (.cells #[.int .i64 (yr (t / 86400)), .int .i64 (mo (t / 86400)), .int .i64 (dy (t / 86400)), .int .i64 (t % 86400 / 3600), .int .i64 (t % 3600 / 60), .int .i64 (t % 60)] 34)
  have cy := (Kept.refl (w1.alloc (.cells #[.int .i64 (yr (t / 86400)), .int .i64 (mo (t / 86400)), .int .i64 (dy (t / 86400)), .int .i64 (t % 86400 / 3600), .int .i64 (t % 3600 / 60), .int .i64 (t % 60)] 34))).new 0 rfl
  generalize w1.alloc (.cells #[.int .i64 (yr (t / 86400)), .int .i64 (mo (t / 86400)), .int .i64 (dy (t / 86400)), .int .i64 (t % 86400 / 3600), .int .i64 (t % 3600 / 60), .int .i64 (t % 60)] 34) = w2 at *
  have B2 := Lib.hid (B1.out.kept k2)
  have K2 := Lib.hid (K1.out.trans k2)
  clear B1 K1 k2
  generalize yr (t / 86400) = Y at *
  go_wp2_with (refine wpList_load_row rfl 25 _ rfl w.heap.size rfl 25 _ (0, 0) _ B2.out Tryz.underlying25 rfl (by kernel_rfl) ?_)
  refine (years_any z (Y - 2) (Y + 1) _).mono ?_
  rintro e w3 ⟨n, f, g, rfl, h1, h2, h3, k3, g1, g2, g3⟩
  go_wp2
  go_ret
  have q := K2.out.size
  exact ⟨n, f, g, rfl, h1, h2, h3, K2.out.trans k3, by omega, by omega, by omega⟩
/-- years, one after another -/
def yrs (a : Int) : Nat → List Int
  | 0 => []
  | k + 1 => yrs a k ++ [a + k]
theorem yrs_len (a : Int) (k : Nat) : (yrs a k).length = k := by
  induction k with
  | zero => rfl
  | succ k ih => simp [yrs, ih]
/-- what a round keeps of the iterator's own -/
def Kp3 (n f g : Nat) (W W' : World) : Prop := W'.heap[n]? = W.heap[n]? ∧ W'.heap[f]? = W.heap[f]? ∧ W'.heap[g]? = W.heap[g]?
theorem kp3_t {n f g : Nat} {A B C : World} (h : Kp3 n f g A B) (k : Kp3 n f g B C) : Kp3 n f g A C := ⟨k.1.trans h.1, k.2.1.trans h.2.1, k.2.2.trans h.2.2⟩
theorem kp3_b {n f g : Nat} {w : World} (h1 : n < w.heap.size) (h2 : f < w.heap.size) (h3 : g < w.heap.size) (W : World) (l : Nat) (o o' : Obj) (hl : w.heap.size ≤ l) (_ : W.heap[l]? = some o) (_ : o.isCells = false) (_ : o.isWalk = false) : Kp3 n f g W (W.putObj l o') :=
  ⟨World.putObj_heap_other (by omega), World.putObj_heap_other (by omega), World.putObj_heap_other (by omega)⟩
theorem kp3_set {n f g : Nat} (W : World) {a : Addr} (v : Value) (h1 : n ≠ a.block) (h2 : f ≠ a.block) (h3 : g ≠ a.block) : Kp3 n f g W (W.setCell a v) :=
  ⟨Below.heap_setCell _ _ _ _ h1, Below.heap_setCell _ _ _ _ h2, Below.heap_setCell _ _ _ _ h3⟩
set_option maxRecDepth 100000 in
set_option maxHeartbeats 2000000 in
theorem turns_stops (m : Nat) (hm : 1 ≤ m) (z : Zo) (hz : mayZ z = true) (hh : z.has = true) (n f g k : Nat) (a : Int) (ha : 1960 ≤ a) (hk : a + k ≤ 10011) (w : World) (Bn : Bz n z w) (Bf : Bi f a w) (Bg : Bi g (a + k - 1) w) :
    SeqStopsK Fence.wide m Tryz.prog 118 #[.pointer (some ⟨f, 0, none⟩), .pointer (some ⟨g, 0, none⟩), .pointer (some ⟨n, 0, none⟩)] (fun y : Int => #[.int .i64 (fromT z y), .int .i64 (uptoT z y)]) (Kp3 n f g) (fun xs => xs = yrs a k) (fun _ => True) k w := by
  intro l J Jx W hW hJ hJx hY h0
  have HZ := Lib.hid hz; have HH := Lib.hid hh; clear hz hh
  have cf : W.cell? ⟨f, 0, none⟩ = some (.int .i64 a) := (hW.cell (p := ⟨f, 0, none⟩) Bf.lt).trans Bf.c
  refine callsIn_of_wp Tryz.func118 rfl trivial ?_ rfl
  simp only [Tryz.ntmps118, List.size_toArray, List.length_cons, List.length_nil, Nat.reduceAdd, Nat.reduceSub, Array.replicate_succ, Array.replicate_zero, List.push_toArray, List.append_toArray, List.nil_append, List.cons_append]
  gi_wp2
  gi_loopw [5] (fun p wr => ∃ j : Nat, j ≤ k ∧ p = .int .i64 (a + j) ∧ J (yrs a j) wr ∧ Kp3 n f g W wr) (fun p _ => (a + k - intOf p).toNat)
  case atStart => exact ⟨0, Nat.zero_le _, by simp, h0, rfl, rfl, rfl⟩
  case round =>
    obtain ⟨j, hj, rfl, hJs, hb⟩ := hrel
    have Zr : Bz n z wr := hb.1.trans ((hW.block n Bn.lt).trans Bn)
    have Gr : Bi g (a + k - 1) wr := hb.2.2.trans ((hW.block g Bg.lt).trans Bg)
    have Fr : Bi f a wr := hb.2.1.trans ((hW.block f Bf.lt).trans Bf)
    have cg := Gr.c
    by_cases hlt : j < k
    · have c0 := Zr.cs.c0
      have c1 := Zr.cs.c1
      have c2 := Zr.cs.c2
      have c3 := Zr.cs.c3
      have c4 := Zr.cs.c4
      have c5 := Zr.cs.c5
      have c6 := Zr.cs.c6
      have c7 := Zr.cs.c7
      have c8 := Zr.cs.c8
      have c9 := Zr.cs.c9
      have c10 := Zr.cs.c10
      have c11 := Zr.cs.c11
      have c12 := Zr.cs.c12
      have c13 := Zr.cs.c13
      have c14 := Zr.cs.c14
      gi_wp2_with (refine ⟨trivial, ?_⟩; gi_at_call 54; refine (callsIn_wide.2 (turnsOf_any z (a + j) _ (by omega) (by omega) HZ.out HH.out)).mono ?_; rintro e w2 ⟨rfl, k2⟩; have J2 := hJ _ wr w2 none hJs (k2.grownBy none) (fun r e => by cases e); obtain ⟨fn, tmps, assign, body, hy, hR⟩ := hY (yrs a j) (a + j) w2 J2 (by rw [yrs_len]; omega))
      refine hR.mono ?_
      rintro e w3 (⟨rfl, J3, k3⟩ | ⟨rfl, Jx3⟩)
      · gi_wp2
        go_roundw
        case rel => exact ⟨j + 1, by omega, by go_num, J3, kp3_t (kp3_t hb ⟨k2.block n Zr.lt, k2.block f Fr.lt, k2.block g Gr.lt⟩) k3⟩
        case measure => simp [intOf]; omega
      · gi_wp2
        refine bodyPost_ret (results_none rfl _ _ _) rfl ?_
        exact ⟨⟨_, rfl⟩, .inr ⟨_, trivial, Jx3⟩⟩
    · obtain rfl : j = k := by omega
      gi_wp2
      go_end0
      exact ⟨⟨_, rfl⟩, .inl ⟨_, rfl, hJs⟩⟩
end Go.Proofs.YtilgamjahediiaaGreatDoor
/- Contracts of package local: how far a zone's time is ahead. -/
namespace Go.Proofs.YtilgamjahediiaaGreatDoor
open Go.ChangeShapes Go.WideShapes Go.ChangeAt Go.RowKit Go.Shelf
open Civ Zn Lc
attribute [local go_sem] Oper.semAt_some
noncomputable def offP (z : Zo) (t : Int) : Int := offY z t (yr (t / 86400))
/-- the last turn of those that have come, not above the second -/
def bgF (f : Int → Int) (t : Int) (l : List Int) : Int := l.foldl (fun acc y => if f y ≤ t then f y else acc) 0
theorem bgF_snoc (f : Int → Int) (t : Int) (l : List Int) (y : Int) : bgF f t (l ++ [y]) = if f y ≤ t then f y else bgF f t l := by
  simp [bgF]
theorem bgF_lst (f : Int → Int) (t y : Int) (h : f (y - 2) ≤ t) : bgF f t (yrs (y - 2) 4) = lst f t y := by
  simp only [yrs, List.nil_append, bgF_snoc]
  unfold lst
  rw [show y - 2 + ((3 : Nat) : Int) = y + 1 by omega, show y - 2 + ((2 : Nat) : Int) = y by omega, show y - 2 + ((1 : Nat) : Int) = y - 1 by omega, show y - 2 + ((0 : Nat) : Int) = y - 2 by omega]
  simp [bgF, h]
theorem day_of (n : Int) (w : World) (h1 : -719162 ≤ n) (h2 : n ≤ 2932896) : ∃ y m d : Int, okP y m d ∧ ord y m d = n := by
  obtain ⟨e, w', fr, r, s, x⟩ := date_yes n w h1 h2 []
  obtain ⟨y, m, d, _, h, k, _⟩ := r
  exact ⟨y, m, d, h, k⟩
theorem of_year (t : Int) (w : World) (h : scB t = true) : Lc.Of t (yr (t / 86400)) ∧ 1970 ≤ yr (t / 86400) ∧ yr (t / 86400) ≤ 9999 := by
  have hb : 0 ≤ t ∧ t ≤ 253402300799 := by simpa [scB] using h
  obtain ⟨y, m, d, hk, ho⟩ := day_of (t / 86400) w (by omega) (by omega)
  rw [(ymd_of hk ho).1]
  have a := yd_bd hk
  have b := first_next y hk.1
  have c : first y 1 + cum y m + d - 1 = t / 86400 := by rw [← ho]; unfold first ord; rw [cum_1]; omega
  have d : ¬ y < 1970 := by
    intro hl
    have e := dby_mono (y + 1) 1970 (by have := hk.1; omega) (by omega)
    have g : dby 1970 = 719162 := by decide +kernel
    have k : first (y + 1) 1 = dby (y + 1) - 719162 := by unfold first; rw [cum_1]; omega
    omega
  exact ⟨⟨hk.1, by omega, by omega⟩, by omega, hk.2.1⟩
theorem Bi.put {b : Nat} {v : Int} {x : World} (h : Bi b v x) (u : Int) : Bi b u (x.setCell ⟨b, 0, none⟩ (.int .i64 u)) := by
  unfold Bi at h ⊢
  simp [World.setCell, Array.getElem?_modify, h]
theorem Bi.other {b : Nat} {v : Int} {x : World} (h : Bi b v x) {a : Addr} (ha : b ≠ a.block) (u : Value) : Bi b v (x.setCell a u) := (Below.heap_setCell _ _ _ _ ha).trans h
theorem Bz.other {b : Nat} {z : Zo} {x : World} (h : Bz b z x) {a : Addr} (ha : b ≠ a.block) (u : Value) : Bz b z (x.setCell a u) := (Below.heap_setCell _ _ _ _ ha).trans h
theorem cells_kept {W W' : World} {row : Option Nat} {b : Nat} {cs : Array Value} {t : TypeId} (h : W.heap[b]? = some (.cells cs t)) (hg : W.grownBy W' row) (hr : ∀ r, row = some r → ∃ o : Obj, W.heap[r]? = some o ∧ o.isCells = false) : W'.heap[b]? = some (.cells cs t) := by
  refine (hg.block b (Array.getElem?_eq_some_iff.1 h).1 fun e => ?_).trans h
  obtain ⟨o, ho, hc⟩ := hr b e.symm
  rw [h] at ho; cases ho; cases hc
set_option maxRecDepth 100000 in
set_option maxHeartbeats 2000000 in
theorem offAt_has (z : Zo) (t : Int) (w : World) (hz : mayZ z = true) (ht : scB t = true) (hh : z.has = true) :
    Calls Tryz.prog 43 #[zoV z, .int .i64 t] w fun e w' => e = .returned (.int .i64 (offP z t)) ∧ Kept w w' := by
  obtain ⟨hY, y1, y2⟩ := of_year t w ht
  have HF := Lib.hid (bgF_lst (fromT z) t _ ((turn_from hz hh).behind hY (by omega)))
  have HU := Lib.hid (bgF_lst (uptoT z) t _ ((turn_upto hz hh).behind hY (by omega)))
  have HO := Lib.hid (show offP z t = if lst (uptoT z) t (yr (t / 86400)) < lst (fromT z) t (yr (t / 86400)) then z.ahead else z.off by unfold offP offY; rw [if_pos hh])
  have HZ := Lib.hid hz; have HH := Lib.hid hh; have HT := Lib.hid ht; clear hz hh ht hY
  have B0 := Lib.hid (bz_new w z)
  have K0 := Lib.hid ((Kept.refl w).alloc (.cells (zo15 z.std z.off z.has z.dst z.ahead z.fr.k z.fr.m z.fr.w z.fr.d z.fr.a z.to.k z.to.m z.to.w z.to.d z.to.a) 25))
  refine (callsIn_wide (n := 5)).1 ?_
  refine callsIn_of_wp_marks Tryz.func43 rfl trivial ?_ rfl
  simp only [Tryz.ntmps43, List.size_toArray, List.length_cons, List.length_nil, Nat.reduceAdd, Nat.reduceSub, Array.replicate_succ, Array.replicate_zero, List.push_toArray, List.append_toArray, List.nil_append, List.cons_append]
  gi_upto_region 1 with (fail)
  generalize hx : w.alloc (.cells (zo15 z.std z.off z.has z.dst z.ahead z.fr.k z.fr.m z.fr.w z.fr.d z.fr.a z.to.k z.to.m z.to.w z.to.d z.to.a) 25) = x at *
  have s1 : x.heap.size = w.heap.size + 1 := by rw [← hx]; simp
  clear hx
  have b1 := bi_new x t
  have k1 := (Kept.refl x).alloc (.cells #[.int .i64 t] 3)
  rw [s1] at b1
  generalize hy : x.alloc (.cells #[.int .i64 t] 3) = y at *
  have s2 : y.heap.size = w.heap.size + 1 + 1 := by rw [← hy]; simp [s1]
  clear hy
  have B1 := Lib.hid (B0.out.kept k1)
  have T1 := Lib.hid b1
  have K1 := Lib.hid (K0.out.trans k1)
  clear B0 b1 K0 k1
  have c2 := B1.out.cs.c2
  rw [HH.out] at c2
  gi_upto_region 4 with (fail)
  have b2 := bi_new y 0
  have k2 := (Kept.refl y).alloc (.cells #[.int .i64 0] 3)
  rw [s2] at b2
  generalize hu : y.alloc (.cells #[.int .i64 0] 3) = u at *
  have s3 : u.heap.size = w.heap.size + 1 + 1 + 1 := by rw [← hu]; simp [s2]
  clear hu
  have b3 := bi_new u 0
  have k3 := (Kept.refl u).alloc (.cells #[.int .i64 0] 3)
  rw [s3] at b3
  generalize hv : u.alloc (.cells #[.int .i64 0] 3) = v at *
  have s4 : v.heap.size = w.heap.size + 1 + 1 + 1 + 1 := by rw [← hv]; simp [s3]
  clear hv
  have B2 := Lib.hid ((B1.out.kept k2).kept k3)
  have T2 := Lib.hid ((T1.out.kept k2).kept k3)
  have G2 := Lib.hid (b2.kept k3)
  have E2 := Lib.hid b3
  have K2 := Lib.hid ((K1.out.trans k2).trans k3)
  clear c2 B1 b2 b3 T1 K1 k2 k3
  have ct := T2.out.c
  have c0 := B2.out.cs.c0
  have c1 := B2.out.cs.c1
  have c2 := B2.out.cs.c2
  have c3 := B2.out.cs.c3
  have c4 := B2.out.cs.c4
  have c5 := B2.out.cs.c5
  have c6 := B2.out.cs.c6
  have c7 := B2.out.cs.c7
  have c8 := B2.out.cs.c8
  have c9 := B2.out.cs.c9
  have c10 := B2.out.cs.c10
  have c11 := B2.out.cs.c11
  have c12 := B2.out.cs.c12
  have c13 := B2.out.cs.c13
  have c14 := B2.out.cs.c14
  gi_wp2_with (refine ⟨trivial, ?_⟩; gi_at_call 77; refine (callsIn_wide.2 (around_any z t _ HT.out)).mono ?_; rintro e w1 ⟨nn, ff, gg, rfl, Bn, Bf, Bg, k4, n1, n2, n3⟩)
  clear ct c0 c1 c2 c3 c4 c5 c6 c7 c8 c9 c10 c11 c12 c13 c14
  have B3 := B2.out.kept k4
  have T3 := T2.out.kept k4
  have G3 := G2.out.kept k4
  have E3 := E2.out.kept k4
  have K3 := K2.out.trans k4
  clear B2 T2 G2 E2 K2 k4
  have l1 := Bn.lt
  have l2 := Bg.lt
  generalize yr (t / 86400) = Y at *
  have HZ' := HZ.out
  have hseq := turns_stops 4 (by omega) z HZ.out HH.out nn ff gg 4 (Y - 2) (by omega) (by omega) w1 Bn Bf (by rw [show Y - 2 + ((4 : Nat) : Int) - 1 = Y + 1 by omega]; exact Bg)
  refine wpIn_rangeFunc_ownF rfl (by omega) (gf := 118) (lb := #[.pointer (some ⟨ff, 0, none⟩), .pointer (some ⟨gg, 0, none⟩), .pointer (some ⟨nn, 0, none⟩)]) rfl trivial (enters_of Tryz.func118 (by kernel_rfl) rfl)
    hseq kp3_t (kp3_b Bn.lt Bf.lt Bg.lt) (Below.refl _ _) (fun _ => rfl)
    (fun pre W => (Bi (w.heap.size + 1 + 1) (bgF (fromT z) t pre) W ∧ Bi (w.heap.size + 1 + 1 + 1) (bgF (uptoT z) t pre) W ∧ Bi (w.heap.size + 1) t W ∧ Bz w.heap.size z W) ∧ Below w.heap.size w W)
    (fun _ _ _ => False)
    (OwnFrom.and (Own.from (fun s A B row hs hg hr => ⟨cells_kept hs.1 hg hr, cells_kept hs.2.1 hg hr, cells_kept hs.2.2.1 hg hr, cells_kept hs.2.2.2 hg hr⟩) _) (ownFrom_below (Nat.le_refl _) K3.size))
    (fun _ _ _ _ _ hs _ _ => hs)
    ⟨⟨G3, E3, T3, B3⟩, K3.below (Nat.le_refl _)⟩
    (fun x => { tmps := #[zoV z, .int .i64 t, .pointer (some ⟨w.heap.size, 0, none⟩), .pointer (some ⟨w.heap.size + 1, 0, none⟩), .int .i64 0, .pointer (some ⟨w.heap.size + 1 + 1, 0, none⟩), .pointer (some ⟨w.heap.size + 1 + 1 + 1, 0, none⟩), .int .i64 (fromT z x), .int .i64 (uptoT z x), .pointer (some ⟨w.heap.size, 2, none⟩), .bool true, .bool false, undef, undef, zoV z, .int .i64 t, .func (.func 118) #[] #[.pointer (some ⟨ff, 0, none⟩), .pointer (some ⟨gg, 0, none⟩), .pointer (some ⟨nn, 0, none⟩)], .int .i64 (fromT z x), .int .i64 (uptoT z x), undef, undef, undef, undef, undef, undef, undef, undef, undef, undef, undef, undef, undef, undef, undef], defers := [] }) ?assign ?body ?done ?stop
  case assign =>
    intro l x W K hK
    gi_wp2
    exact hK
  case body =>
    rintro l pre x W ⟨⟨hg, he, ht, hz⟩, hB⟩ _
    have cg := hg.c
    have ce := he.c
    have ct := ht.c
    have fg : W.frozen? ⟨w.heap.size + 1 + 1, 0, none⟩ = false := by unfold Bi at hg; simp [World.frozen?, hg]
    have fe : W.frozen? ⟨w.heap.size + 1 + 1 + 1, 0, none⟩ = false := by unfold Bi at he; simp [World.frozen?, he]
    by_cases q1 : fromT z x ≤ t
    · by_cases q2 : uptoT z x ≤ t
      · gi_wp2
        exact ⟨(KeepsOthers.setCell _ _ _).trans (KeepsOthers.setCell _ _ _), kp3_t (kp3_set _ _ (by simp only; omega) (by simp only; omega) (by simp only; omega)) (kp3_set _ _ (by simp only; omega) (by simp only; omega) (by simp only; omega)), ⟨by rw [bgF_snoc, if_pos (by omega)]; exact (hg.put _).other (by simp only; omega) _, by rw [bgF_snoc, if_pos (by omega)]; exact (he.other (by simp only; omega) _).put _, (ht.other (by simp only; omega) _).other (by simp only; omega) _, (hz.other (by simp only; omega) _).other (by simp only; omega) _⟩, (hB.setCell (by simp only; omega) _).setCell (by simp only; omega) _⟩
      · gi_wp2
        exact ⟨KeepsOthers.setCell _ _ _, (kp3_set _ _ (by simp only; omega) (by simp only; omega) (by simp only; omega)), ⟨by rw [bgF_snoc, if_pos (by omega)]; exact hg.put _, by rw [bgF_snoc, if_neg (by omega)]; exact he.other (by simp only; omega) _, ht.other (by simp only; omega) _, hz.other (by simp only; omega) _⟩, hB.setCell (by simp only; omega) _⟩
    · by_cases q2 : uptoT z x ≤ t
      · gi_wp2
        exact ⟨KeepsOthers.setCell _ _ _, (kp3_set _ _ (by simp only; omega) (by simp only; omega) (by simp only; omega)), ⟨by rw [bgF_snoc, if_neg (by omega)]; exact hg.other (by simp only; omega) _, by rw [bgF_snoc, if_pos (by omega)]; exact he.put _, ht.other (by simp only; omega) _, hz.other (by simp only; omega) _⟩, hB.setCell (by simp only; omega) _⟩
      · gi_wp2
        exact ⟨KeepsOthers.refl _, ⟨rfl, rfl, rfl⟩, ⟨by rw [bgF_snoc, if_neg (by omega)]; exact hg, by rw [bgF_snoc, if_neg (by omega)]; exact he, ht, hz⟩, hB⟩
  case done =>
    rintro D ys W hD rfl ⟨⟨hg, he, ht, hz⟩, hB⟩ hK
    rw [HF.out] at hg
    rw [HU.out] at he
    have cg := hg.c
    have ce := he.c
    have c1 := hz.cs.c1
    have c4 := hz.cs.c4
    have hle := K3.size
    have hBD := hB.trans (belowK_b (w := w) (Nat.le_refl _) W D _ (.deferred none) (by omega) hK rfl rfl)
    by_cases q : lst (uptoT z) t Y < lst (fromT z) t Y
    · have HR := Lib.hid (show offP z t = z.ahead by rw [HO.out, if_pos q])
      gi_wp2
      refine ⟨by simp, .inl ⟨_, _, rfl, run_takeDeferred hK, ?_⟩⟩
      exact ⟨_, results_tmp rfl _ _ _, by rw [HR.out]; rfl, Kept.of_below hBD⟩
    · have HR := Lib.hid (show offP z t = z.off by rw [HO.out, if_neg q])
      gi_wp2
      refine ⟨by simp, .inl ⟨_, _, rfl, run_takeDeferred hK, ?_⟩⟩
      exact ⟨_, results_tmp rfl _ _ _, by rw [HR.out]; rfl, Kept.of_below hBD⟩
  case stop =>
    rintro D c pre W _ _ h _
    exact h.elim
end Go.Proofs.YtilgamjahediiaaGreatDoor
/- Contracts of package local: Off and At. -/
namespace Go.Proofs.YtilgamjahediiaaGreatDoor
open Go.ChangeShapes Go.WideShapes Go.ChangeAt Go.RowKit
open Civ Zn Lc
set_option maxRecDepth 100000 in
set_option maxHeartbeats 2000000 in
theorem offAt_any (z : Zo) (t : Int) (w : World) (hz : mayZ z = true) (ht : scB t = true) :
    Calls Tryz.prog 43 #[zoV z, .int .i64 t] w fun e w' => e = .returned (.int .i64 (offP z t)) ∧ Kept w w' := by
  by_cases hh : z.has = true
  · exact offAt_has z t w hz ht hh
  · have HH := Lib.hid (show z.has = false by simpa using hh)
    have HO := Lib.hid (show offP z t = z.off by unfold offP offY; rw [if_neg hh])
    clear hz ht hh
    have B0 := Lib.hid (bz_new w z)
    have K0 := Lib.hid ((Kept.refl w).alloc (.cells (zo15 z.std z.off z.has z.dst z.ahead z.fr.k z.fr.m z.fr.w z.fr.d z.fr.a z.to.k z.to.m z.to.w z.to.d z.to.a) 25))
    go_enter Tryz.func43, Tryz.ntmps43
    go_upto_region 1 with (fail)
    generalize w.alloc (.cells (zo15 z.std z.off z.has z.dst z.ahead z.fr.k z.fr.m z.fr.w z.fr.d z.fr.a z.to.k z.to.m z.to.w z.to.d z.to.a) 25) = x at *
    have k1 := (Kept.refl x).alloc (.cells #[.int .i64 t] 3)
    generalize x.alloc (.cells #[.int .i64 t] 3) = y at *
    have B1 := Lib.hid (B0.out.kept k1)
    have K1 := Lib.hid (K0.out.trans k1)
    clear B0 K0 k1
    have c2 := B1.out.cs.c2
    rw [HH.out] at c2
    have c1 := B1.out.cs.c1
    go_wp2
    go_ret
    exact ⟨by rw [HO.out]; rfl, K1.out⟩
set_option maxRecDepth 100000 in
set_option maxHeartbeats 2000000 in
theorem off_yes (z : Zo) (t : Int) (w : World) (hz : mayZ z = true) (ht : scB t = true) :
    Calls Tryz.prog 27 #[zoV z, .int .i64 t] w fun e w' => e = .returned (.tuple #[.int .i64 (offP z t), .int .i64 0]) ∧ Kept w w' := by
  have HZ := Lib.hid hz; have HT := Lib.hid ht; clear hz ht
  have B0 := Lib.hid (bz_new w z)
  have K0 := Lib.hid ((Kept.refl w).alloc (.cells (zo15 z.std z.off z.has z.dst z.ahead z.fr.k z.fr.m z.fr.w z.fr.d z.fr.a z.to.k z.to.m z.to.w z.to.d z.to.a) 25))
  go_enter Tryz.func27, Tryz.ntmps27
  go_upto_region 1 with (fail)
  generalize w.alloc (.cells (zo15 z.std z.off z.has z.dst z.ahead z.fr.k z.fr.m z.fr.w z.fr.d z.fr.a z.to.k z.to.m z.to.w z.to.d z.to.a) 25) = x at *
  go_wp2_with (refine wpList_load_row rfl 25 _ rfl w.heap.size rfl 25 _ (0, 0) _ B0.out Tryz.underlying25 rfl (by kernel_rfl) ?_)
  refine (zMay_any z _).mono ?_
  rintro e w1 ⟨rfl, k1⟩
  rw [HZ.out]
  have B1 := Lib.hid (B0.out.kept k1)
  have K1 := Lib.hid (K0.out.trans k1)
  clear B0 K0 k1
  go_wp2_with fail
  refine (isSecond_any t _).mono ?_
  rintro e w2 ⟨rfl, rfl⟩
  rw [HT.out]
  go_wp2_with (refine wpList_load_row rfl 25 _ rfl w.heap.size rfl 25 _ (0, 0) _ B1.out Tryz.underlying25 rfl (by kernel_rfl) ?_)
  refine (offAt_any z t _ HZ.out HT.out).mono ?_
  rintro e w2 ⟨rfl, k2⟩
  go_wp2
  go_ret2
  exact ⟨rfl, K1.out.trans k2⟩
set_option maxRecDepth 100000 in
set_option maxHeartbeats 2000000 in
theorem off_not (z : Zo) (t : Int) (w : World) (h : (mayZ z && scB t) = false) :
    Calls Tryz.prog 27 #[zoV z, .int .i64 t] w fun e w' => e = .returned (.tuple #[.int .i64 0, .int .i64 1]) ∧ Kept w w' := by
  have HN := Lib.hid h; clear h
  have B0 := Lib.hid (bz_new w z)
  have K0 := Lib.hid ((Kept.refl w).alloc (.cells (zo15 z.std z.off z.has z.dst z.ahead z.fr.k z.fr.m z.fr.w z.fr.d z.fr.a z.to.k z.to.m z.to.w z.to.d z.to.a) 25))
  go_enter Tryz.func27, Tryz.ntmps27
  go_upto_region 1 with (fail)
  generalize w.alloc (.cells (zo15 z.std z.off z.has z.dst z.ahead z.fr.k z.fr.m z.fr.w z.fr.d z.fr.a z.to.k z.to.m z.to.w z.to.d z.to.a) 25) = x at *
  go_wp2_with (refine wpList_load_row rfl 25 _ rfl w.heap.size rfl 25 _ (0, 0) _ B0.out Tryz.underlying25 rfl (by kernel_rfl) ?_)
  refine (zMay_any z _).mono ?_
  rintro e w1 ⟨rfl, k1⟩
  have K1 := Lib.hid (K0.out.trans k1)
  clear B0 K0 k1
  cases hz : mayZ z with
  | false =>
    clear hz
    go_wp2
    go_ret2
    exact ⟨rfl, K1.out⟩
  | true =>
    have ht : scB t = false := by have := HN.out; rw [hz] at this; simpa using this
    have HT := Lib.hid ht; clear hz ht
    go_wp2_with fail
    refine (isSecond_any t _).mono ?_
    rintro e w2 ⟨rfl, rfl⟩
    rw [HT.out]
    go_wp2
    go_ret2
    exact ⟨rfl, K1.out⟩
theorem offP_bd {z : Zo} (hz : mayZ z = true) (t : Int) : -89999 ≤ offP z t ∧ offP z t ≤ 93599 := by
  have o := may_off hz
  unfold offP offY
  split
  · rename_i hh
    have := may_T hz hh
    split <;> omega
  · omega
set_option maxRecDepth 100000 in
set_option maxHeartbeats 2000000 in
theorem lat_yes (z : Zo) (t : Int) (w : World) (hz : mayZ z = true) (ht : scB t = true) (hc : inCal (t + offP z t)) :
    Calls Tryz.prog 70 #[zoV z, .int .i64 t] w (AtPost (t + offP z t) w) := by
  have HZ := Lib.hid hz; have HT := Lib.hid ht; have HC := Lib.hid hc
  have ob := offP_bd hz t
  have tb : 0 ≤ t ∧ t ≤ 253402300799 := by simpa [scB] using ht
  clear hz ht hc
  have B0 := Lib.hid (bz_new w z)
  have K0 := Lib.hid ((Kept.refl w).alloc (.cells (zo15 z.std z.off z.has z.dst z.ahead z.fr.k z.fr.m z.fr.w z.fr.d z.fr.a z.to.k z.to.m z.to.w z.to.d z.to.a) 25))
  go_enter Tryz.func70, Tryz.ntmps70
  go_upto_region 1 with (fail)
  generalize hx : w.alloc (.cells (zo15 z.std z.off z.has z.dst z.ahead z.fr.k z.fr.m z.fr.w z.fr.d z.fr.a z.to.k z.to.m z.to.w z.to.d z.to.a) 25) = x at *
  have s1 : x.heap.size = w.heap.size + 1 := by rw [← hx]; simp
  clear hx
  have b1 := new_block x (.cells #[.int .i64 0, .int .i64 0, .int .i64 0, .int .i64 0, .int .i64 0, .int .i64 0] 34)
  have k1 := (Kept.refl x).alloc (.cells #[.int .i64 0, .int .i64 0, .int .i64 0, .int .i64 0, .int .i64 0, .int .i64 0] 34)
  rw [s1] at b1
  generalize x.alloc (.cells #[.int .i64 0, .int .i64 0, .int .i64 0, .int .i64 0, .int .i64 0, .int .i64 0] 34) = y at *
  have B1 := Lib.hid (B0.out.kept k1)
  have R1 := Lib.hid b1
  have K1 := Lib.hid (K0.out.trans k1)
  clear B0 K0 k1 b1 s1
  go_wp2_with (refine wpList_load_row rfl 25 _ rfl w.heap.size rfl 25 _ (0, 0) _ B1.out Tryz.underlying25 rfl (by kernel_rfl) ?_)
  refine (off_yes z t _ HZ.out HT.out).mono ?_
  rintro e w1 ⟨rfl, k2⟩
  generalize offP z t = o at *
  have R2 := Lib.hid ((k2.block _ (Array.getElem?_eq_some_iff.1 R1.out).1).trans R1.out)
  have K2 := Lib.hid (K1.out.trans k2)
  clear B1 R1 K1 k2
  go_wp2_with fail
  refine (at_yes _ _ HC.out).mono ?_
  rintro e w2 ⟨hD, rfl, k3⟩
  have R3 := Lib.hid ((k3.block _ (Array.getElem?_eq_some_iff.1 R2.out).1).trans R2.out)
  have K3 := Lib.hid (K2.out.trans k3)
  clear R2 K2 k3
  have kb : Kept w w2 := K3.out
  have e0 := cell_of R3.out (j := 0) rfl
  have e1 := cell_of R3.out (j := 1) rfl
  have e2 := cell_of R3.out (j := 2) rfl
  have e3 := cell_of R3.out (j := 3) rfl
  have e4 := cell_of R3.out (j := 4) rfl
  have e5 := cell_of R3.out (j := 5) rfl
  have f0 : ∀ j, w2.frozen? ⟨w.heap.size + 1, j, none⟩ = false := fun j => by have := R3.out; simp [World.frozen?, this]
  have HD := Lib.hid hD; clear hD K3
  go_wp2
  exact bodyPost_ret (v := .tuple #[cv (t + o), .int .i64 0]) (by simp [results, Tryz.results70, go_sem, *]) rfl ⟨HD.out, rfl, (((((kb.setCell (Nat.le_succ _) _).setCell (Nat.le_succ _) _).setCell (Nat.le_succ _) _).setCell (Nat.le_succ _) _).setCell (Nat.le_succ _) _).setCell (Nat.le_succ _) _⟩
set_option maxRecDepth 100000 in
set_option maxHeartbeats 2000000 in
theorem lat_out (z : Zo) (t : Int) (w : World) (hz : mayZ z = true) (ht : scB t = true) (hc : ¬ inCal (t + offP z t)) :
    Calls Tryz.prog 70 #[zoV z, .int .i64 t] w fun e w' => e = .returned (.tuple #[civ 0 0 0 0 0 0, .int .i64 1]) ∧ Kept w w' := by
  have HZ := Lib.hid hz; have HT := Lib.hid ht; have HC := Lib.hid hc
  have ob := offP_bd hz t
  have tb : 0 ≤ t ∧ t ≤ 253402300799 := by simpa [scB] using ht
  clear hz ht hc
  have B0 := Lib.hid (bz_new w z)
  have K0 := Lib.hid ((Kept.refl w).alloc (.cells (zo15 z.std z.off z.has z.dst z.ahead z.fr.k z.fr.m z.fr.w z.fr.d z.fr.a z.to.k z.to.m z.to.w z.to.d z.to.a) 25))
  go_enter Tryz.func70, Tryz.ntmps70
  go_upto_region 1 with (fail)
  generalize hx : w.alloc (.cells (zo15 z.std z.off z.has z.dst z.ahead z.fr.k z.fr.m z.fr.w z.fr.d z.fr.a z.to.k z.to.m z.to.w z.to.d z.to.a) 25) = x at *
  have s1 : x.heap.size = w.heap.size + 1 := by rw [← hx]; simp
  clear hx
  have b1 := new_block x (.cells #[.int .i64 0, .int .i64 0, .int .i64 0, .int .i64 0, .int .i64 0, .int .i64 0] 34)
  have k1 := (Kept.refl x).alloc (.cells #[.int .i64 0, .int .i64 0, .int .i64 0, .int .i64 0, .int .i64 0, .int .i64 0] 34)
  rw [s1] at b1
  generalize x.alloc (.cells #[.int .i64 0, .int .i64 0, .int .i64 0, .int .i64 0, .int .i64 0, .int .i64 0] 34) = y at *
  have B1 := Lib.hid (B0.out.kept k1)
  have R1 := Lib.hid b1
  have K1 := Lib.hid (K0.out.trans k1)
  clear B0 K0 k1 b1 s1
  go_wp2_with (refine wpList_load_row rfl 25 _ rfl w.heap.size rfl 25 _ (0, 0) _ B1.out Tryz.underlying25 rfl (by kernel_rfl) ?_)
  refine (off_yes z t _ HZ.out HT.out).mono ?_
  rintro e w1 ⟨rfl, k2⟩
  generalize offP z t = o at *
  have R2 := Lib.hid ((k2.block _ (Array.getElem?_eq_some_iff.1 R1.out).1).trans R1.out)
  have K2 := Lib.hid (K1.out.trans k2)
  clear B1 R1 K1 k2
  go_wp2_with fail
  refine (at_not _ _ (by omega) (by omega) HC.out).mono ?_
  rintro e w2 ⟨rfl, k3⟩
  have R3 := Lib.hid ((k3.block _ (Array.getElem?_eq_some_iff.1 R2.out).1).trans R2.out)
  have K3 := Lib.hid (K2.out.trans k3)
  clear R2 K2 k3
  have kb : Kept w w2 := K3.out
  have e0 := cell_of R3.out (j := 0) rfl
  have e1 := cell_of R3.out (j := 1) rfl
  have e2 := cell_of R3.out (j := 2) rfl
  have e3 := cell_of R3.out (j := 3) rfl
  have e4 := cell_of R3.out (j := 4) rfl
  have e5 := cell_of R3.out (j := 5) rfl
  have f0 : ∀ j, w2.frozen? ⟨w.heap.size + 1, j, none⟩ = false := fun j => by have := R3.out; simp [World.frozen?, this]
  clear K3
  go_wp2
  exact bodyPost_ret (v := .tuple #[civ 0 0 0 0 0 0, .int .i64 1]) (by simp [results, Tryz.results70, go_sem, *]) rfl ⟨rfl, (((((kb.setCell (Nat.le_succ _) _).setCell (Nat.le_succ _) _).setCell (Nat.le_succ _) _).setCell (Nat.le_succ _) _).setCell (Nat.le_succ _) _).setCell (Nat.le_succ _) _⟩
set_option maxRecDepth 100000 in
set_option maxHeartbeats 2000000 in
theorem lat_not (z : Zo) (t : Int) (w : World) (h : (mayZ z && scB t) = false) :
    Calls Tryz.prog 70 #[zoV z, .int .i64 t] w fun e w' => e = .returned (.tuple #[civ 0 0 0 0 0 0, .int .i64 1]) ∧ Kept w w' := by
  have HN := Lib.hid h; clear h
  have B0 := Lib.hid (bz_new w z)
  have K0 := Lib.hid ((Kept.refl w).alloc (.cells (zo15 z.std z.off z.has z.dst z.ahead z.fr.k z.fr.m z.fr.w z.fr.d z.fr.a z.to.k z.to.m z.to.w z.to.d z.to.a) 25))
  go_enter Tryz.func70, Tryz.ntmps70
  go_upto_region 1 with (fail)
  generalize hx : w.alloc (.cells (zo15 z.std z.off z.has z.dst z.ahead z.fr.k z.fr.m z.fr.w z.fr.d z.fr.a z.to.k z.to.m z.to.w z.to.d z.to.a) 25) = x at *
  have s1 : x.heap.size = w.heap.size + 1 := by rw [← hx]; simp
  clear hx
  have b1 := new_block x (.cells #[.int .i64 0, .int .i64 0, .int .i64 0, .int .i64 0, .int .i64 0, .int .i64 0] 34)
  have k1 := (Kept.refl x).alloc (.cells #[.int .i64 0, .int .i64 0, .int .i64 0, .int .i64 0, .int .i64 0, .int .i64 0] 34)
  rw [s1] at b1
  generalize x.alloc (.cells #[.int .i64 0, .int .i64 0, .int .i64 0, .int .i64 0, .int .i64 0, .int .i64 0] 34) = y at *
  have B1 := Lib.hid (B0.out.kept k1)
  have R1 := Lib.hid b1
  have K1 := Lib.hid (K0.out.trans k1)
  clear B0 K0 k1 b1 s1
  go_wp2_with (refine wpList_load_row rfl 25 _ rfl w.heap.size rfl 25 _ (0, 0) _ B1.out Tryz.underlying25 rfl (by kernel_rfl) ?_)
  refine (off_not z t _ HN.out).mono ?_
  rintro e w2 ⟨rfl, k2⟩
  have R3 := Lib.hid ((k2.block _ (Array.getElem?_eq_some_iff.1 R1.out).1).trans R1.out)
  have K3 := Lib.hid (K1.out.trans k2)
  clear B1 R1 K1 k2
  have kb : Kept w w2 := K3.out
  have e0 := cell_of R3.out (j := 0) rfl
  have e1 := cell_of R3.out (j := 1) rfl
  have e2 := cell_of R3.out (j := 2) rfl
  have e3 := cell_of R3.out (j := 3) rfl
  have e4 := cell_of R3.out (j := 4) rfl
  have e5 := cell_of R3.out (j := 5) rfl
  have f0 : ∀ j, w2.frozen? ⟨w.heap.size + 1, j, none⟩ = false := fun j => by have := R3.out; simp [World.frozen?, this]
  clear K3
  go_wp2
  exact bodyPost_ret (v := .tuple #[civ 0 0 0 0 0 0, .int .i64 1]) (by simp [results, Tryz.results70, go_sem, *]) rfl ⟨rfl, (((((kb.setCell (Nat.le_succ _) _).setCell (Nat.le_succ _) _).setCell (Nat.le_succ _) _).setCell (Nat.le_succ _) _).setCell (Nat.le_succ _) _).setCell (Nat.le_succ _) _⟩
end Go.Proofs.YtilgamjahediiaaGreatDoor
