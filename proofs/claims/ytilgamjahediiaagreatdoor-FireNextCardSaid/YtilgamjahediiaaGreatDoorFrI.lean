/- Several texts of this seat, one behind the other. -/
import Derived.Test.YtilgamjahediiaaGreatDoorFrP
import Derived.Test.YtilgamjahediiaaGreatDoorFrRg
/- Contracts of package fire: the days gone through by a function to range over. -/
set_option linter.unusedVariables false
namespace Go.Proofs.YtilgamjahediiaaGreatDoor
open Go.ChangeShapes Go.WideShapes Go.ChangeAt Go.RowKit Go.Shelf
open Civ Zn Lc Crn
attribute [local go_sem] Oper.semAt_some
/-- a day and time in a block of its own -/
def Bs (b : Nat) (s : Six) (x : World) : Prop := x.heap[b]? = some (.cells #[.int .i64 s.y, .int .i64 s.m, .int .i64 s.d, .int .i64 s.h, .int .i64 s.i, .int .i64 s.s] 34)
theorem Bs.lt {b : Nat} {s : Six} {x : World} (h : Bs b s x) : b < x.heap.size := (Array.getElem?_eq_some_iff.1 h).1
theorem Bs.cells {b : Nat} {s : Six} {x : World} (h : Bs b s x) : x.cell? ⟨b, 0, none⟩ = some (.int .i64 s.y) ∧ x.cell? ⟨b, 1, none⟩ = some (.int .i64 s.m) ∧ x.cell? ⟨b, 2, none⟩ = some (.int .i64 s.d) ∧ x.cell? ⟨b, 3, none⟩ = some (.int .i64 s.h) ∧ x.cell? ⟨b, 4, none⟩ = some (.int .i64 s.i) ∧ x.cell? ⟨b, 5, none⟩ = some (.int .i64 s.s) :=
  ⟨cell_of h rfl, cell_of h rfl, cell_of h rfl, cell_of h rfl, cell_of h rfl, cell_of h rfl⟩
theorem Bs.frz {b : Nat} {s : Six} {x : World} (h : Bs b s x) (j : Nat) : x.frozen? ⟨b, j, none⟩ = false := by unfold Bs at h; simp [World.frozen?, h]
theorem Bs.new (x : World) (s : Six) : Bs x.heap.size s (x.alloc (.cells #[.int .i64 s.y, .int .i64 s.m, .int .i64 s.d, .int .i64 s.h, .int .i64 s.i, .int .i64 s.s] 34)) := new_block x _
abbrev put6 (x : World) (b : Nat) (s : Six) : World := (((((x.setCell ⟨b, 0, none⟩ (.int .i64 s.y)).setCell ⟨b, 1, none⟩ (.int .i64 s.m)).setCell ⟨b, 2, none⟩ (.int .i64 s.d)).setCell ⟨b, 3, none⟩ (.int .i64 s.h)).setCell ⟨b, 4, none⟩ (.int .i64 s.i)).setCell ⟨b, 5, none⟩ (.int .i64 s.s)
theorem Bs.put {b : Nat} {s s' : Six} {x : World} (h : Bs b s x) : Bs b s' (put6 x b s') := by
  unfold Bs at h ⊢
  simp [put6, World.setCell, Array.getElem?_modify, h]
theorem save_put6 {b : Nat} (x : World) (s : Six) {M : Nat → Prop} (hM : M b) : Save M x (put6 x b s) :=
  (((((Save.set _ hM).trans (Save.set _ hM)).trans (Save.set _ hM)).trans (Save.set _ hM)).trans (Save.set _ hM)).trans (Save.set _ hM)
theorem Bs.save {b : Nat} {s : Six} {A B : World} {M : Nat → Prop} (h : Bs b s A) (v : Save M A B) (hm : ¬ M b) : Bs b s B := v.at h hm
theorem Bi.save {b : Nat} {v : Int} {A B : World} {M : Nat → Prop} (h : Bi b v A) (k : Save M A B) (hm : ¬ M b) : Bi b v B := k.at h hm
theorem save_own6 {M : Nat → Prop} {A B : World} (v : Save M A B) {b : Nat} (hb : A.heap.size ≤ b) (s : Six) : Save M A (put6 B b s) := by
  have q := save_put6 (M := fun k => k = b) B s rfl
  exact ⟨q.os.trans v.os, q.output.trans v.output, Nat.le_trans v.size q.size, fun k hk hm => (q.block k (Nat.lt_of_lt_of_le hk v.size) (fun e => by omega)).trans (v.block k hk hm), q.tape.trans v.tape⟩
set_option maxRecDepth 100000 in
set_option maxHeartbeats 1000000 in
theorem daysOf_any (a b : Int) (w : World) : Calls Tryz.prog 95 #[.int .i64 a, .int .i64 b] w fun e w' => ∃ f g : Nat, e = .returned (.func (.func 116) #[] #[.pointer (some ⟨f, 0, none⟩), .pointer (some ⟨g, 0, none⟩)]) ∧ Bi f a w' ∧ Bi g b w' ∧ Kept w w' ∧ w.heap.size ≤ f ∧ w.heap.size ≤ g := by
  have b1 := bi_new w a
  have k1 := (Kept.refl w).alloc (.cells #[.int .i64 a] 3)
  go_enter Tryz.func95, Tryz.ntmps95
  go_upto_region 1 with (fail)
  generalize hy : w.alloc (.cells #[.int .i64 a] 3) = y at *
  have s2 : y.heap.size = w.heap.size + 1 := by rw [← hy]; simp
  clear hy
  have b2 := bi_new y b
  have k2 := (Kept.refl y).alloc (.cells #[.int .i64 b] 3)
  rw [s2] at b2
  generalize y.alloc (.cells #[.int .i64 b] 3) = u at *
  have P := Lib.hid (show Bi w.heap.size a u ∧ Bi (w.heap.size + 1) b u ∧ Kept w u from ⟨b1.kept k2, b2, k1.trans k2⟩)
  clear b1 b2 k1 k2
  go_wp2
  go_ret
  exact ⟨_, _, rfl, P.out.1, P.out.2.1, P.out.2.2, by omega, by omega⟩
theorem dOk_of {a b : Int} {k : Nat} (ha : inCal a) (he : seE (86400 * (a / 86400 + k)) = 0) (hb : 86400 * (a / 86400 + k) ≤ b) : dOk a b k := by
  refine ⟨ha, ?_, hb⟩
  unfold seE at he
  by_cases q : inCal (86400 * (a / 86400 + (k : Int)))
  · exact q
  · rw [if_neg q] at he; cases he
theorem dNo_of {a b : Int} {k : Nat} (h : ¬ (seE (86400 * (a / 86400 + k)) = 0 ∧ 86400 * (a / 86400 + k) ≤ b)) : dEnd a b k := fun q => h ⟨by unfold seE; rw [if_pos q.2.1], q.2.2⟩
theorem seS_mid {a : Int} (h : inCal a) : a - (seS a).h * 3600 - (seS a).i * 60 - (seS a).s = 86400 * (a / 86400) := by
  unfold seS; rw [if_pos h]
  simp only
  omega
theorem seE_0 {a : Int} (h : inCal a) : seE a = 0 := by unfold seE; rw [if_pos h]
theorem inCal_mid {a : Int} (h : inCal a) : inCal (86400 * (a / 86400)) := by unfold inCal at h ⊢; omega
theorem seS_out {a : Int} (h : ¬ inCal a) : seS a = six0 ∧ seE a = 1 := by unfold seS seE; rw [if_neg h, if_neg h]; exact ⟨rfl, rfl⟩
theorem dS_succ (a : Int) (k : Nat) : dS a (k + 1) = seS (86400 * (a / 86400 + k) + 86400) := by
  unfold dS; rw [if_neg (by omega)]; congr 1; omega
/-- where the loop stands: at the k-th day -/
def dAt (a : Int) (k : Nat) (e m : Int) : Prop := (inCal a ∧ m = 86400 * (a / 86400 + k) ∧ e = seE (86400 * (a / 86400 + k))) ∨ (¬ inCal a ∧ k = 0 ∧ e = 1)
set_option maxRecDepth 100000 in
set_option maxHeartbeats 4000000 in
theorem days_itr (a b : Int) (f g : Nat) (a1 : -1000000000000 ≤ a) (a2 : a ≤ 1000000000000) (b1 : -1000000000000 ≤ b) (b2 : b ≤ 1000000000000) :
    Itr Tryz.prog 116 #[.pointer (some ⟨f, 0, none⟩), .pointer (some ⟨g, 0, none⟩)] (dStep a b) (dEnd a b) 0 (fun W => Bi f a W ∧ Bi g b W) := by
  intro n l M J Jx W hcap hM hcM hJ hJx hY h0
  have HC := Lib.hid hcap; have HM := Lib.hid hM; have HCM := Lib.hid hcM; have HJ := Lib.hid hJ; have HJX := Lib.hid hJx; have HY := Lib.hid hY; have H0 := Lib.hid h0
  clear hcap hM hcM hJ hJx hY h0
  have cf := HC.out.1.c
  refine callsIn_wide.2 ((callsIn_wide (n := 5)).1 ?_)
  refine callsIn_of_wp Tryz.func116 rfl trivial ?_ rfl
  simp only [Tryz.ntmps116, List.size_toArray, List.length_cons, List.length_nil, Nat.reduceAdd, Nat.reduceSub, Array.replicate_succ, Array.replicate_zero, List.push_toArray, List.append_toArray, List.nil_append, List.cons_append]
  obtain ⟨h1, h2, i1, i2, s1, s2⟩ : 0 ≤ (seS a).h ∧ (seS a).h ≤ 23 ∧ 0 ≤ (seS a).i ∧ (seS a).i ≤ 59 ∧ 0 ≤ (seS a).s ∧ (seS a).s ≤ 59 := by
    unfold seS; split
    · simp only; omega
    · simp
  have HA := Lib.hid (show dAt a 0 (seE a) (a - (seS a).h * 3600 - (seS a).i * 60 - (seS a).s) by
    by_cases q : inCal a
    · exact Or.inl ⟨q, by rw [seS_mid q]; omega, by rw [seE_0 q]; rw [show 86400 * (a / 86400 + ((0 : Nat) : Int)) = 86400 * (a / 86400) by omega, seE_0 (inCal_mid q)]⟩
    · exact Or.inr ⟨q, rfl, (seS_out q).2⟩)
  have HB := Lib.hid (show -2000000000000 ≤ a - (seS a).h * 3600 - (seS a).i * 60 - (seS a).s ∧ a - (seS a).h * 3600 - (seS a).i * 60 - (seS a).s ≤ 2000000000000 by omega)
  gi_wp2_with (refine ⟨trivial, ?_⟩; gi_at_call 28; refine (callsIn_wide.2 (se_any a _ (by omega) (by omega))).mono ?_; rintro e w1 ⟨rfl, k1⟩; have D0 := Bs.new w1 (seS a); obtain ⟨c0, c1, c2, c3, c4, c5⟩ := D0.cells; have k2 := k1.trans ((Kept.refl w1).alloc (.cells #[.int .i64 (seS a).y, .int .i64 (seS a).m, .int .i64 (seS a).d, .int .i64 (seS a).h, .int .i64 (seS a).i, .int .i64 (seS a).s] 34)); have cfx := (k2.cell (a := ⟨f, 0, none⟩) HC.out.1.lt).trans cf; have hs1 := k1.size; have DX := Lib.hid D0; have KX := Lib.hid k2; clear D0 k1 k2)
  generalize w1.alloc (.cells #[.int .i64 (seS a).y, .int .i64 (seS a).m, .int .i64 (seS a).d, .int .i64 (seS a).h, .int .i64 (seS a).i, .int .i64 (seS a).s] 34) = x at *
  generalize w1.heap.size = D at *
  gi_loopw [5, 6] (fun e m wr => ∃ (k : Nat) (ee mm : Int), e = .int .i64 ee ∧ m = .int .i64 mm ∧ dAt a k ee mm ∧ J k wr ∧ Save M W wr ∧ Bs D (dS a k) wr ∧ -2000000000000 ≤ mm ∧ mm ≤ 2000000000000) (fun _ m _ => (b + 1 - intOf m).toNat)
  case atStart => exact ⟨0, _, _, rfl, rfl, HA.out, HJ.out 0 W x H0.out (KX.out.below (Nat.le_refl _)), Save.of_kept _ KX.out, DX.out, HB.out.1, HB.out.2⟩
  case round =>
    clear c0 c1 c2 c3 c4 c5 cfx cf
    have hs1 := hs1
    obtain ⟨k, e, m, rfl, rfl, hat, hj, hv, hd, m1, m2⟩ := hrel
    have capr := HCM.out _ _ hv HC.out
    have cg := capr.2.c
    have CR := Lib.hid capr; have HAT := Lib.hid hat; have HJR := Lib.hid hj; have HV := Lib.hid hv; have HD := Lib.hid hd
    clear capr hat hj hv hd
    by_cases he : e = 0
    · by_cases hm : m ≤ b
      · subst he
        obtain ⟨hca, hmm, hee⟩ : inCal a ∧ m = 86400 * (a / 86400 + k) ∧ (0 : Int) = seE (86400 * (a / 86400 + k)) := by
          rcases HAT.out with q | q
          · exact q
          · exact absurd q.2.2 (by decide)
        have hok := dOk_of (b := b) (k := k) hca hee.symm (by omega)
        obtain ⟨fn, tmps, assign, body, hy, hR⟩ := yield_any (m := 4) (HY.out k #[.int .i64 m, sixV (dS a k)] (k + 1) wr ⟨hok, by rw [hmm], rfl⟩ HJR.out)
        have HE := Lib.hid (show dAt a (k + 1) (seE (m + 86400)) (m + 86400) from Or.inl ⟨hca, by omega, by congr 1; omega⟩)
        have HS := Lib.hid (show dS a (k + 1) = seS (m + 86400) by rw [dS_succ, ← hmm])
        clear hca hmm hee hok
        obtain ⟨c0, c1, c2, c3, c4, c5⟩ := HD.out.cells
        gi_wp2
        refine hR.mono ?_
        rintro e W3 ⟨v3, ⟨rfl, j3⟩ | ⟨rfl, j3⟩⟩
        · have hlt := HM.out
          have nD : ¬ M D := fun q => by have := hlt D q; omega
          have D3 := Lib.hid (HD.out.save v3 nD); have V3 := Lib.hid (HV.out.trans v3); have J3 := Lib.hid j3
          clear c0 c1 c2 c3 c4 c5 v3 j3 hlt
          gi_wp2_with (refine ⟨trivial, ?_⟩; gi_at_call 28; refine (callsIn_wide.2 (se_any (m + 86400) _ (by omega) (by omega))).mono ?_; rintro e w4 ⟨rfl, k4⟩; have D4 := (D3.out.save (M := M) (Save.of_kept _ k4) nD); have F4 := D4.frz; obtain ⟨c0, c1, c2, c3, c4, c5⟩ := D4.cells; have f0 := F4 0; have f1 := F4 1; have f2 := F4 2; have f3 := F4 3; have f4 := F4 4; have f5 := F4 5)
          have P6 := Lib.hid (save_own6 (V3.out.trans (Save.of_kept _ k4)) (show W.heap.size ≤ D by omega) (seS (m + 86400)))
          refine ⟨⟨k + 1, _, _, rfl, rfl, HE.out, HJ.out (k + 1) W3 _ J3.out ?_, P6.out, by rw [HS.out]; exact D4.put, by omega, by omega⟩, by simp only [intOf]; omega⟩
          have q := save_put6 (M := fun k => k = D) w4 (seS (m + 86400)) rfl
          exact (k4.below (by have := V3.out.size; omega)).trans (q.below (by have := V3.out.size; have := k4.size; omega) (fun k h => by omega))
        · gi_wp2
          go_end0
          exact ⟨⟨_, rfl⟩, HV.out.trans v3, .inr ⟨_, j3⟩⟩
      · subst he
        have hE := dNo_of (a := a) (b := b) (k := k)
        have hEnd : dEnd a b k := by
          rcases HAT.out with q | q
          · exact hE (fun r => hm (by have := r.2; have := q.2.1; omega))
          · exact fun r => q.1 r.1
        have HEnd := Lib.hid hEnd
        clear hE hEnd
        gi_wp2
        refine ⟨fun _ h => (by cases h), ?_⟩
        gi_wp2
        go_end0
        exact ⟨⟨_, rfl⟩, HV.out, .inl ⟨k, HEnd.out, HJR.out⟩⟩
    · have hEnd : dEnd a b k := by
        rcases HAT.out with q | q
        · exact dNo_of (fun r => he (by rw [q.2.2]; exact r.1))
        · exact fun r => q.1 r.1
      have HEnd := Lib.hid hEnd
      have heb : (e == 0) = false := beq_eq_false_iff_ne.2 he
      clear hEnd
      gi_wp2
      refine ⟨fun _ h => (by cases h), ?_⟩
      gi_wp2
      go_end0
      exact ⟨⟨_, rfl⟩, HV.out, .inl ⟨k, HEnd.out, HJR.out⟩⟩
end Go.Proofs.YtilgamjahediiaaGreatDoor
/- Contracts of package fire: the times of a schedule, told by a function to range over. -/
set_option linter.unusedVariables false
namespace Go.Proofs.YtilgamjahediiaaGreatDoor
open Go.ChangeShapes Go.WideShapes Go.ChangeAt Go.RowKit Go.Shelf
open Civ Zn Lc Crn
attribute [local go_sem] Oper.semAt_some
set_option maxRecDepth 100000 in
set_option maxHeartbeats 1000000 in
theorem times_any (c : CR) (sl : Nat → Value) (a b : Int) (w : World) : Calls Tryz.prog 72 #[crV sl c.st, .int .i64 a, .int .i64 b] w fun e w' => ∃ f g h : Nat, e = .returned (.func (.func 94) #[] #[.pointer (some ⟨f, 0, none⟩), .pointer (some ⟨g, 0, none⟩), .pointer (some ⟨h, 0, none⟩)]) ∧ Bi f a w' ∧ Bi g b w' ∧ Cb h sl c.st w' ∧ Kept w w' ∧ w.heap.size ≤ f ∧ w.heap.size ≤ g ∧ w.heap.size ≤ h := by
  have b0 := Cb.new sl c.st w
  have k0 := (Kept.refl w).alloc (.cells (cr10 sl c.st) 30)
  go_enter Tryz.func72, Tryz.ntmps72
  go_upto_region 1 with (fail)
  generalize hx : w.alloc (.cells (cr10 sl c.st) 30) = x at *
  have s1 : x.heap.size = w.heap.size + 1 := by rw [← hx]; simp
  clear hx
  have b1 := bi_new x a
  have k1 := (Kept.refl x).alloc (.cells #[.int .i64 a] 3)
  rw [s1] at b1
  generalize hy : x.alloc (.cells #[.int .i64 a] 3) = y at *
  have s2 : y.heap.size = w.heap.size + 1 + 1 := by rw [← hy]; simp [s1]
  clear hy
  have b2 := bi_new y b
  have k2 := (Kept.refl y).alloc (.cells #[.int .i64 b] 3)
  rw [s2] at b2
  generalize y.alloc (.cells #[.int .i64 b] 3) = u at *
  have P := Lib.hid (show Bi (w.heap.size + 1) a u ∧ Bi (w.heap.size + 1 + 1) b u ∧ Cb w.heap.size sl c.st u ∧ Kept w u from ⟨b1.kept k2, b2, (b0.kept k1).kept k2, (k0.trans k1).trans k2⟩)
  clear b0 b1 b2 k0 k1 k2
  go_wp2
  go_ret
  exact ⟨_, _, _, rfl, P.out.1, P.out.2.1, P.out.2.2.1, P.out.2.2.2, by omega, by omega, by omega⟩
theorem Cb.save {b : Nat} {sl : Nat → Value} {st : Nat → Bool} {A B : World} {M : Nat → Prop} (h : Cb b sl st A) (k : Save M A B) (hm : ¬ M b) : Cb b sl st B := k.at h hm
theorem kept_sub {w0 A B : World} {n : Nat} (h : Kept w0 A) (k : Below n A B) (hn : w0.heap.size ≤ n) : Kept w0 B :=
  ⟨k.os.trans h.os, k.output.trans h.output, Nat.le_trans h.size k.size, fun i hi => (k.block i (by omega)).trans (h.block i hi), k.tape.trans h.tape⟩
/-- what the times' function has captured -/
structure TCap (w0 : World) (c : CR) (sl : Nat → Value) (a b : Int) (f g h : Nat) (W : World) : Prop where
  k : Kept w0 W
  f : Bi f a W
  g : Bi g b W
  h : Cb h sl c.st W
theorem TCap.below {w0 : World} {c : CR} {sl : Nat → Value} {a b : Int} {f g h : Nat} {A B : World} (q : TCap w0 c sl a b f g h A) {n : Nat} (k : Below n A B) (hn : A.heap.size ≤ n) : TCap w0 c sl a b f g h B := by
  have kk : Kept A B := ⟨k.os, k.output, k.size, fun i hi => k.block i (by omega), k.tape⟩
  exact ⟨q.k.trans kk, q.f.kept kk, q.g.kept kk, q.h.kept kk⟩
theorem TCap.sub {w0 : World} {c : CR} {sl : Nat → Value} {a b : Int} {f g h : Nat} {A B : World} (q : TCap w0 c sl a b f g h A) {n : Nat} (k : Below n A B) (h0 : w0.heap.size ≤ n) (h1 : f < n) (h2 : g < n) (h3 : h < n) : TCap w0 c sl a b f g h B :=
  ⟨kept_sub q.k k h0, (k.block _ h1).trans q.f, (k.block _ h2).trans q.g, (k.block _ h3).trans q.h⟩
/-- yield in its box -/
def Yb (y l : Nat) (W : World) : Prop := W.heap[y]? = some (.cells #[.func (.yield l) #[] #[]] 62)
theorem Yb.c {y l : Nat} {W : World} (h : Yb y l W) : W.cell? ⟨y, 0, none⟩ = some (.func (.yield l) #[] #[]) := cell_of h rfl
theorem Save.own {M M' : Nat → Prop} {A B C : World} (v : Save M A B) (q : Save M' B C) (h : ∀ k, M' k → A.heap.size ≤ k) : Save M A C :=
  ⟨q.os.trans v.os, q.output.trans v.output, Nat.le_trans v.size q.size, fun k hk hm => (q.block k (Nat.lt_of_lt_of_le hk v.size) (fun e => by have := h k e; omega)).trans (v.block k hk hm), q.tape.trans v.tape⟩
theorem wpIn_scope_w {n : Nat} {P : Program} {c : Code} {Q : Exit → Act → World → Prop} {a : Act} {w : World} (h : c.wpIn Fence.wide n P (Exit.noGoto Q) a w) : (Code.scope c).wpIn Fence.wide n P Q a w :=
  wpIn_wide.2 (wp_scope_straight (wpIn_wide.1 h))
theorem wpIn_label_w {n k : Nat} {P : Program} {c : Code} {Q : Exit → Act → World → Prop} {a : Act} {w : World} (h : c.wpIn Fence.wide n P Q a w) : (Code.seq (Code.label k) c).wpIn Fence.wide n P Q a w :=
  wpIn_seq (wpIn_label h)
set_option maxRecDepth 100000 in
set_option maxHeartbeats 8000000 in
theorem times_itr (c : CR) (sl : Nat → Value) (a b : Int) (f g h : Nat) (w0 : World) (hc : Cr w0 sl c.L) (hm : mayC c = true) (a1 : -1000000000 ≤ a) (a2 : a ≤ 1000000000000) (b1 : -1000000000000 ≤ b) (b2 : b ≤ 1000000000000) :
    Itr Tryz.prog 94 #[.pointer (some ⟨f, 0, none⟩), .pointer (some ⟨g, 0, none⟩), .pointer (some ⟨h, 0, none⟩)] (tStep c a b) (tEnd c a b) a (TCap w0 c sl a b f g h) := by
  intro n l M J Jx W hcap hM hcM hJ hJx hY h0
  have HC := Lib.hid hcap; have HM := Lib.hid hM; have HCM := Lib.hid hcM; have HJ := Lib.hid hJ; have HJX := Lib.hid hJx; have HY := Lib.hid hY; have H0 := Lib.hid h0
  have HCR := Lib.hid hc; have HMC := Lib.hid hm
  clear hcap hM hcM hJ hJx hY h0 hc hm
  have Y0 : Yb W.heap.size l (W.alloc (.cells #[.func (.yield l) #[] #[]] 62)) := new_block W _
  have K0 := (Kept.refl W).alloc (.cells #[.func (.yield l) #[] #[]] 62)
  have cf := (HC.out.f.kept K0).c
  have cg := (HC.out.g.kept K0).c
  refine callsIn_wide.2 ((callsIn_wide (n := 9)).1 ?_)
  refine callsIn_of_wp_marks Tryz.func94 rfl trivial ?_ rfl
  simp only [Tryz.ntmps94, List.size_toArray, List.length_cons, List.length_nil, Nat.reduceAdd, Nat.reduceSub, Array.replicate_succ, Array.replicate_zero, List.push_toArray, List.append_toArray, List.nil_append, List.cons_append]
  gi_upto_region 1 with (fail)
  have hw : (W.alloc (.cells #[.func (.yield l) #[] #[]] 62)).heap.size = W.heap.size + 1 := by simp
  generalize W.alloc (.cells #[.func (.yield l) #[] #[]] 62) = X0 at *
  refine wpIn_scope_w (wpIn_label_w ?_)
  gi_wp2_with (refine ⟨trivial, ?_⟩; gi_at_call 95; refine (callsIn_wide.2 (daysOf_any a b _)).mono ?_; rintro e X ⟨f', g', rfl, Bf, Bg, k1, f1, g1⟩)
  have hX := k1.size
  have KX := Lib.hid (K0.trans k1)
  have YX := Lib.hid (show Yb W.heap.size l X from (k1.block _ (by omega)).trans Y0)
  have CX := Lib.hid (HC.out.below (KX.out.below (Nat.le_refl _)) (Nat.le_refl _))
  have DX := Lib.hid (show Bi f' a X ∧ Bi g' b X from ⟨Bf, Bg⟩)
  have lt1 := Bf.lt; have lt2 := Bg.lt
  clear Y0 K0 cf cg Bf Bg k1
  refine range_itr (n := 9) (gf := 116) (lb := #[.pointer (some ⟨f', 0, none⟩), .pointer (some ⟨g', 0, none⟩)]) rfl (enters_of Tryz.func116 (by kernel_rfl) rfl)
    (days_itr a b f' g' (by omega) (by omega) (by omega) (by omega)) (fun s arr s' hs => by obtain ⟨_, rfl, _⟩ := hs; rfl)
    M (fun k hk => by have := HM.out k hk; omega) DX.out
    (fun A B v q => by
      have n1 : ¬ (M f' ∨ X.heap.size ≤ f') := fun r => by rcases r with r | r; (· have := HM.out _ r; omega); omega
      have n2 : ¬ (M g' ∨ X.heap.size ≤ g') := fun r => by rcases r with r | r; (· have := HM.out _ r; omega); omega
      exact ⟨q.1.save v n1, q.2.save v n2⟩)
    (fun k V => ∃ s, J s V ∧ Rem c a b s (86400 * (a / 86400 + k)) ∧ TCap w0 c sl a b f g h V ∧ Yb W.heap.size l V ∧ X.heap.size ≤ V.heap.size)
    (fun q k V => q = .exit 0 ∧ ((∃ s, tEnd c a b s ∧ J s V) ∨ (∃ s, Jx s V)))
    ?hI ?hIx ⟨a, HJ.out a W X H0.out (KX.out.below (Nat.le_refl _)), by rw [show 86400 * (a / 86400 + ((0 : Nat) : Int)) = 86400 * (a / 86400) by omega]; exact Rem.zero, CX.out, YX.out, Nat.le_refl _⟩ ?round ?done ?stop
  case hI =>
    rintro k A B ⟨s, hj, hr, hcp, hy, hz⟩ kb
    have k0 := HC.out.k.size
    exact ⟨s, HJ.out s A B hj (kb.mono (by omega)), hr, hcp.sub kb (by omega) (by have := HC.out.f.lt; omega) (by have := HC.out.g.lt; omega) (by have := HC.out.h.lt; omega), (kb.block _ (by omega)).trans hy, Nat.le_trans hz kb.size⟩
  case hIx =>
    rintro q k A B ⟨rfl, h⟩ kb
    refine ⟨rfl, ?_⟩
    rcases h with ⟨s, h1, h2⟩ | ⟨s, h2⟩
    · exact .inl ⟨s, h1, HJ.out s A B h2 (kb.mono (by omega))⟩
    · exact .inr ⟨s, HJX.out s A B h2 (kb.mono (by omega))⟩
  case round =>
    rintro l2 k arr k' V ⟨hok, rfl, rfl⟩ ⟨s, hj, hr, hcp, hy, hz⟩ hsz K hK
    have HOK := Lib.hid hok; have HJ1 := Lib.hid hj; have HR := Lib.hid hr; have HCP := Lib.hid hcp; have HYB := Lib.hid hy; have HK := Lib.hid hK
    clear hok hj hr hcp hy hK
    simp only [List.zip_toArray, List.zip_cons_cons, List.zip_nil_right, List.foldl_toArray, List.foldl_cons, List.foldl_nil, List.setIfInBounds_toArray, List.set_cons_zero, List.set_cons_succ]
    have z0 := HC.out.k.size; have z1 := HC.out.f.lt; have z2 := HC.out.g.lt; have z3 := HC.out.h.lt
    gi_wp2
    refine HK.out _ _ ((Kept.refl V).alloc _) (fun W2 v2 => ?_)
    have Dn : Bs V.heap.size (dS a k) W2 := (Bs.new V (dS a k)).save v2 (by omega)
    have kV : Below X.heap.size V W2 := (((Kept.refl V).alloc _).below (by omega)).trans (v2.below (by simp; omega) (fun k h => by omega))
    have J2 := Lib.hid (HJ.out s V W2 HJ1.out (kV.mono (by omega)))
    have cp2 := HCP.out.sub kV (by omega) (by omega) (by omega) (by omega)
    have CP2 := Lib.hid cp2
    have Y2 := Lib.hid (show Yb W.heap.size l W2 from (kV.block _ (by omega)).trans HYB.out)
    have D2 := Lib.hid Dn
    have hz2 : X.heap.size ≤ W2.heap.size := Nat.le_trans hz kV.size
    obtain ⟨e0, e1, e2, e3, e4, e5, e6, e7, e8, e9⟩ := cells10 cp2.h
    obtain ⟨u0, u1, u2, u3, u4, u5⟩ := Dn.cells
    obtain ⟨q1, q2, q3⟩ := dS_day HOK.out
    have HDD := Lib.hid (show dayC c (dS a k).y (dS a k).m (dS a k).d = dayC c (yr (a / 86400 + k)) (mo (a / 86400 + k)) (dy (a / 86400 + k)) by rw [q1, q2, q3])
    have hcal := HOK.out.2.1
    have hbd : -1000090000 ≤ 86400 * (a / 86400 + (k : Int)) ∧ 86400 * (a / 86400 + (k : Int)) ≤ 1000000000000 := ⟨by have := HOK.out; omega, by have := HOK.out.2.2; omega⟩
    have HCAL := Lib.hid hcal
    generalize V.heap.size = D at *
    clear v2 kV Dn cp2 q1 q2 q3 HJ1 HCP HYB HK hcal
    cases hdb : dayC c (dS a k).y (dS a k).m (dS a k).d with
    | false =>
      have HNO := Lib.hid (HDD.out.symm.trans hdb)
      gi_wp2_with (refine ⟨trivial, ?_⟩; gi_at_call 48; refine (CallsIn.inRound l2 (callsIn_wide.2 (kday_any c sl _ _ _ _ (HCR.out.kept CP2.out.k)))).mono ?_; rintro e W3 ⟨rfl, k3⟩; rw [hdb])
      have b3 := k3.below (show X.heap.size ≤ W2.heap.size from hz2)
      refine ⟨Save.of_kept _ k3, s, HJ.out s W2 W3 J2.out (b3.mono (by omega)), ?_, CP2.out.sub b3 (by omega) (by omega) (by omega) (by omega), (b3.block _ (by omega)).trans Y2.out, Nat.le_trans hz2 k3.size⟩
      rw [show a / 86400 + ((k + 1 : Nat) : Int) = a / 86400 + k + 1 by omega]
      exact HR.out.next (by omega) (fun n hn hle => slot_no W HNO.out hn hle)
    | true =>
      obtain ⟨ad1, cp1, hs1⟩ := (HCR.out 1 (by omega)).slice
      obtain ⟨ad0, cp0, hs0⟩ := (HCR.out 0 (by omega)).slice
      have HS1 := Lib.hid hs1; have HS0 := Lib.hid hs0
      clear hs1 hs0
      have HYES := Lib.hid (HDD.out.symm.trans hdb)
      gi_wp2_with (refine ⟨trivial, ?_⟩; gi_at_call 48; refine (CallsIn.inRound l2 (callsIn_wide.2 (kday_any c sl _ _ _ _ (HCR.out.kept CP2.out.k)))).mono ?_; rintro e W3 ⟨rfl, k3⟩; rw [hdb]; have CP3 := CP2.out.sub (k3.below (show X.heap.size ≤ W2.heap.size from hz2)) (by omega) (by omega) (by omega) (by omega); clear e0 e1 e2 e3 e4 e5 e6 e7 e8 e9 u0 u1 u2 u3 u4 u5; have e1 : W3.cell? ⟨h, 1, none⟩ = some (.slice ad1 (c.L 1).length cp1) := by rw [← HS1.out]; exact (cells10 CP3.h).2.1)
      have b3 := k3.below (show X.heap.size ≤ W2.heap.size from hz2)
      have HV3 := Lib.hid (Save.of_kept M k3)
      have J3 := Lib.hid (HJ.out s W2 W3 J2.out (b3.mono (by omega)))
      have hz3 : X.heap.size ≤ W3.heap.size := Nat.le_trans hz2 k3.size
      have HR3 := Lib.hid (HR.out.next (q := 86400 * (a / 86400 + k) + 3600 * nx (c.L 1) 24 0) (by have := (may_L HMC.out).2.1; have l0 : 0 < (c.L 1).length := (by have := (may_L HMC.out).2.2.2; cases hl : c.L 1 with | nil => exact absurd hl this | cons => simp); have := (nx_bd (top := 24) this l0).1; omega) (fun n hn hle => day_0 W HMC.out hn hle))
      have hl1 := (HCR.out 1 (by omega)).len
      unfold maxLen at hl1
      clear e1 b3 k3 CP3 HR J2
      gi_loopw [8, 10, 11, 30] (fun _ _ _ i wr => ∃ (ii : Nat) (s' : Int), i = .int .i64 ii ∧ ii ≤ (c.L 1).length ∧ J s' wr ∧ Rem c a b s' (86400 * (a / 86400 + k) + 3600 * nx (c.L 1) 24 ii) ∧ Save M W2 wr ∧ X.heap.size ≤ wr.heap.size) (fun _ _ _ i _ => (c.L 1).length - (intOf i).toNat)
      case atStart => exact ⟨0, s, rfl, Nat.zero_le _, J3.out, HR3.out, HV3.out, hz3⟩
      case round =>
        obtain ⟨ii, s', rfl, hii, hj, hr, hv, hzr⟩ := hrel
        have capr := HCM.out _ _ hv CP2.out
        have HRr := Lib.hid hr; have HVr := Lib.hid hv; have HJr := Lib.hid hj; have HCr := Lib.hid capr
        clear hj hr hv capr
        obtain ⟨rs0, rs1, ne0, ne1⟩ := may_L HMC.out
        by_cases hlt : ii < (c.L 1).length
        · obtain ⟨bb, oo, cc, hs, hb, hcell⟩ := ((HCR.out 1 (by omega)).kept HCr.out.k).at hlt
          rw [HS1.out] at hs
          simp only [Value.slice.injEq] at hs
          obtain ⟨rfl, -, rfl⟩ := hs
          have ck := hcell ii _ (nx_in (top := 24) hlt)
          clear hcell hb
          obtain ⟨g1', g2'⟩ := nx_bd (top := 24) rs1 hlt
          have HGM := Lib.hid (List.mem_of_getElem? (nx_in (top := 24) hlt))
          have HST := Lib.hid (fun n hn hle => day_s (d := a / 86400 + k) (n := n) W HMC.out hn hlt hle)
          have HSZ := Lib.hid (nx_top (top := 24) rs1 (by omega) (ii + 1))
          have HSL := Lib.hid (show nx (c.L 1) 24 ii < nx (c.L 1) 24 (ii + 1) by
            by_cases q : ii + 1 < (c.L 1).length
            · have m2 := List.mem_of_getElem? (nx_in (top := 24) q)
              exact nx_lt rs1 q
            · rw [nx_out (i := ii + 1) (by omega)]; omega)
          generalize hgg : nx (c.L 1) 24 ii = gg at *
          clear hgg
          have e0 : wr.cell? ⟨h, 0, none⟩ = some (.slice ad0 (c.L 0).length cp0) := by rw [← HS0.out]; exact (cells10 HCr.out.h).1
          have hl0 := (HCR.out 0 (by omega)).len
          unfold maxLen at hl0
          have RS0 := Lib.hid rs0; have NE0 := Lib.hid ne0
          clear rs0 rs1 ne0 ne1
          gi_wp2
          gi_loopw [10, 11, 38] (fun _ _ j wq => ∃ (jj : Nat) (s2 : Int), j = .int .i64 jj ∧ jj ≤ (c.L 0).length ∧ J s2 wq ∧ Rem c a b s2 (86400 * (a / 86400 + k) + 3600 * gg + 60 * nx (c.L 0) 60 jj) ∧ Save M W2 wq ∧ X.heap.size ≤ wq.heap.size) (fun _ _ j _ => (c.L 0).length - (intOf j).toNat)
          case atStart =>
            refine ⟨0, s', rfl, Nat.zero_le _, HJr.out, HRr.out.next ?_ (fun n hn hle => hour_0 W HMC.out hn hle), HVr.out, hzr⟩
            have l0 : 0 < (c.L 0).length := by cases hl : c.L 0 with | nil => exact absurd hl NE0.out | cons => simp
            have := (nx_bd (top := 60) RS0.out l0).1
            omega
          case round =>
            clear ck e0
            obtain ⟨jj, s2, rfl, hjj, hj, hr, hv, hzq⟩ := hrel
            have capq := HCM.out _ _ hv CP2.out
            have HRq := Lib.hid hr; have HVq := Lib.hid hv; have HJq := Lib.hid hj; have HCq := Lib.hid capq
            have HYq := Lib.hid (show Yb W.heap.size l wr from hv.at Y2.out (fun q => by have := HM.out _ q; omega))
            clear hj hr hv capq
            by_cases hjt : jj < (c.L 0).length
            · obtain ⟨bb, oo, cc, hs, hb, hcell⟩ := ((HCR.out 0 (by omega)).kept HCq.out.k).at hjt
              rw [HS0.out] at hs
              simp only [Value.slice.injEq] at hs
              obtain ⟨rfl, -, rfl⟩ := hs
              have ck := hcell jj _ (nx_in (top := 60) hjt)
              clear hcell hb
              obtain ⟨m1', m2'⟩ := nx_bd (top := 60) RS0.out hjt
              have HMM := Lib.hid (List.mem_of_getElem? (nx_in (top := 60) hjt))
              have HNT := Lib.hid (fun n hn hle => hour_s (d := a / 86400 + k) (g := gg) (n := n) W HMC.out hn hjt hle)
              have HNL := Lib.hid (show nx (c.L 0) 60 jj < nx (c.L 0) 60 (jj + 1) by
                by_cases q : jj + 1 < (c.L 0).length
                · exact nx_lt RS0.out q
                · rw [nx_out (i := jj + 1) (by omega)]; omega)
              generalize hmm : nx (c.L 0) 60 jj = mm at *
              clear hmm
              have cf := HCq.out.f.c; have cg := HCq.out.g.c; have cy := HYq.out.c
              have HT := Lib.hid (show 86400 * (a / 86400 + (k : Int)) + 3600 * gg + 60 * mm = 86400 * (a / 86400 + (k : Int)) + gg * 3600 + mm * 60 by omega)
              by_cases ht1 : 86400 * (a / 86400 + (k : Int)) + gg * 3600 + mm * 60 < a
              · have HR4 := Lib.hid (HRq.out.skip (q := 86400 * (a / 86400 + k) + 3600 * gg + 60 * nx (c.L 0) 60 (jj + 1)) (by rw [HT.out]; exact ht1) (by have := HNL.out; omega) HNT.out)
                gi_wp2
                exact ⟨⟨jj + 1, s2, by go_num, hjt, HJq.out, HR4.out, HVq.out, hzq⟩, by simp only [intOf]; omega⟩
              · by_cases ht2 : b < 86400 * (a / 86400 + (k : Int)) + gg * 3600 + mm * 60
                · have HE := Lib.hid (HRq.out.stop (by rw [HT.out]; exact ht2))
                  gi_wp2
                  refine ⟨fun _ h => (by cases h), ?_⟩
                  gi_wp2
                  exact ⟨HVq.out, rfl, .inl ⟨s2, HE.out, HJq.out⟩⟩
                · have hsl := slot_of (d := a / 86400 + k) W HCAL.out HGM.out HMM.out g1' g2' m1' m2' HYES.out
                  have hst := HRq.out.step (by rw [HT.out]; omega) (by rw [HT.out]; omega) hsl
                  rw [HT.out] at hst
                  obtain ⟨fn, tmps, assign, body, hy, hR⟩ := yield_any (m := 7) (HY.out _ _ _ wr hst HJq.out)
                  clear hsl hst
                  gi_wp2
                  refine hR.mono ?_
                  rintro e W5 ⟨v5, ⟨rfl, j5⟩ | ⟨rfl, j5⟩⟩
                  · have HR6 := Lib.hid (show Rem c a b (86400 * (a / 86400 + (k : Int)) + gg * 3600 + mm * 60 + 1) (86400 * (a / 86400 + k) + 3600 * gg + 60 * nx (c.L 0) 60 (jj + 1)) from
                      Rem.gone (by have := HNL.out; omega) (fun n hn hle => HNT.out n hn (by rw [HT.out]; exact hle)))
                    have V5 := Lib.hid (HVq.out.trans v5); have J5 := Lib.hid j5
                    have hz5 := Nat.le_trans hzq v5.size
                    clear v5 j5
                    gi_wp2
                    exact ⟨⟨jj + 1, _, by go_num, hjt, J5.out, HR6.out, V5.out, hz5⟩, by simp only [intOf]; omega⟩
                  · have V5 := Lib.hid (HVq.out.trans v5); have J5 := Lib.hid j5
                    clear v5 j5
                    gi_wp2
                    exact ⟨V5.out, rfl, .inr ⟨_, J5.out⟩⟩
            · obtain rfl : jj = (c.L 0).length := by omega
              have HR5 := Lib.hid (show Rem c a b s2 (86400 * (a / 86400 + k) + 3600 * nx (c.L 1) 24 (ii + 1)) by
                have q := HRq.out
                rw [nx_out (Nat.le_refl _)] at q
                exact q.next (by have := HSL.out; omega) (fun n hn hle => HST.out n hn (by omega)))
              gi_wp2
              exact ⟨⟨ii + 1, s2, by go_num, hlt, HJq.out, HR5.out, HVq.out, hzq⟩, by simp only [intOf]; omega⟩
        · obtain rfl : ii = (c.L 1).length := by omega
          gi_wp2
          refine ⟨HVr.out, s', HJr.out, ?_, HCr.out, HVr.out.at Y2.out (fun q => by have := HM.out _ q; omega), hzr⟩
          have q := HRr.out
          rw [nx_out (Nat.le_refl _)] at q
          rw [show 86400 * (a / 86400 + ((k + 1 : Nat) : Int)) = 86400 * (a / 86400 + (k : Int)) + 3600 * 24 by omega]
          exact q
  case done =>
    rintro k V hend ⟨s, hj, hr, hcp, hy, hz⟩ hv hK
    have H := Lib.hid (⟨s, dEnd_t W (by omega) hend hr, hj⟩ : ∃ s, tEnd c a b s ∧ J s V)
    have HV := Lib.hid hv
    clear hend hj hr hcp hy hv
    gi_wp2
    refine ⟨by simp, .inl ⟨_, _, rfl, run_takeDeferred hK, ?_⟩⟩
    obtain ⟨s2, h1, h2⟩ := H.out
    have hz3 := HV.out.size
    exact ⟨_, results_none rfl _ _ _, ⟨_, rfl⟩, (((Save.of_kept M KX.out).trans HV.out).own (Save.put (M := fun k => k = X.heap.size) _ rfl) (fun k h => by omega)), .inl ⟨s2, h1, HJ.out s2 V _ h2 ((Save.put (M := fun k => k = X.heap.size) _ rfl).below (by omega) (fun k h => by omega))⟩⟩
  case stop =>
    rintro q k V ⟨rfl, h⟩ hv hK
    have H := Lib.hid h
    have HV := Lib.hid hv
    clear h hv
    gi_wp2
    refine ⟨by simp, .inl ⟨_, _, rfl, run_takeDeferred hK, ?_⟩⟩
    have hz3 := HV.out.size
    have hbl : Below W.heap.size V (V.putObj X.heap.size (.deferred none)) := (Save.put (M := fun k => k = X.heap.size) _ rfl).below (by omega) (fun k h => by omega)
    refine ⟨_, results_none rfl _ _ _, ⟨_, rfl⟩, (((Save.of_kept M KX.out).trans HV.out).own (Save.put (M := fun k => k = X.heap.size) _ rfl) (fun k h => by omega)), ?_⟩
    rcases H.out with ⟨s2, h1, h2⟩ | ⟨s2, h2⟩
    · exact .inl ⟨s2, h1, HJ.out s2 V _ h2 hbl⟩
    · exact .inr ⟨s2, HJX.out s2 V _ h2 hbl⟩
end Go.Proofs.YtilgamjahediiaaGreatDoor
