/- Contracts of the document's reader of zones: rules. -/
import Derived.Test.YtomnjdammfiadaaDoorZnRTim
namespace Go.Proofs.YtomnjdammfiadaaDoor
open Go.ChangeShapes Go.WideShapes Go.ChangeAt Go.RowKit
open Zn
theorem Onl.of_kept {bk : Nat} {w w' : World} (k : Kept w w') (hb : bk < w.heap.size) : Onl bk w w' :=
  ⟨k.os, k.output, k.size, fun i hi _ => k.block i hi, fun j => k.frozen (a := ⟨bk, j, none⟩) hb⟩
theorem Onl.alloc {bk : Nat} {w x : World} (h : Onl bk w x) (hb : bk < w.heap.size) (o : Obj) : Onl bk w (x.alloc o) :=
  h.trans (Onl.of_kept ((Kept.refl x).alloc o) (Nat.lt_of_lt_of_le hb h.size))
theorem Onl.setNew {bk : Nat} {w x : World} (h : Onl bk w x) {a : Addr} (ha : w.heap.size ≤ a.block) (v : Value) : Onl bk w (x.setCell a v) :=
  ⟨h.os, h.output, by simpa [World.setCell] using h.size, fun k hk hnk => (Below.heap_setCell _ _ _ _ (by omega)).trans (h.block k hk hnk), fun j => (World.frozen?_setCell _ _ _ _).trans (h.frozen j)⟩
theorem Rr.set {bk : Nat} {S l : List UInt8} {bad : Bool} {x : World} (h : Rr bk S l bad x) {a : Addr} (hn : bk ≠ a.block) (v : Value) : Rr bk S l bad (x.setCell a v) :=
  ⟨(Below.heap_setCell _ _ _ _ hn).trans h.blk, h.le, h.suf, h.sl⟩
theorem Rr.alloc {bk : Nat} {S l : List UInt8} {bad : Bool} {x : World} (h : Rr bk S l bad x) (o : Obj) : Rr bk S l bad (x.alloc o) :=
  ⟨(((Kept.refl x).alloc o).block _ h.lt).trans h.blk, h.le, h.suf, h.sl⟩
/-- within the reading of a rule: the result's block, and the rule's own at m -/
structure StR (bk m : Nat) (S : List UInt8) (w : World) (c1 : Array Value) (l : List UInt8) (bad : Bool) (x : World) : Prop where
  old : bk < w.heap.size
  hm : w.heap.size < m
  o : Onl bk w x
  lt : m < x.heap.size
  b0 : x.heap[w.heap.size]? = some (.cells (ru5 0 0 0 0 0) 23)
  b1 : x.heap[m]? = some (.cells c1 23)
  rd : Rr bk S l bad x
theorem StR.step {bk m : Nat} {S : List UInt8} {w x x' : World} {c1 : Array Value} {l r : List UInt8} {bad bad' : Bool} (h : StR bk m S w c1 l bad x) (o : Onl bk x x') (hr : Rr bk S r bad' x') : StR bk m S w c1 r bad' x' :=
  have h1 := h.old
  have h2 := h.hm
  have h3 := h.lt
  ⟨h.old, h.hm, h.o.trans o, Nat.lt_of_lt_of_le h.lt o.size, (o.block _ (by omega) (by omega)).trans h.b0, (o.block _ h.lt (by omega)).trans h.b1, hr⟩
theorem StR.set {bk m : Nat} {S : List UInt8} {w x : World} {c1 : Array Value} {l : List UInt8} {bad : Bool} (h : StR bk m S w c1 l bad x) (j : Nat) (v : Value) : StR bk m S w (c1.setIfInBounds j v) l bad (x.setCell ⟨m, j, none⟩ v) := by
  have h1 := h.old
  have h2 := h.hm
  exact ⟨h.old, h.hm, h.o.setNew (a := ⟨m, j, none⟩) (by simp only; omega) v, by simpa [World.setCell] using h.lt, (Below.heap_setCell _ _ _ _ (by simp only; omega)).trans h.b0, block_set h.b1 v, h.rd.set (by simp only; omega) v⟩
theorem StR.spoil {bk m : Nat} {S : List UInt8} {w x : World} {c1 : Array Value} {l : List UInt8} {bad : Bool} (h : StR bk m S w c1 l bad x) (b : Bool) : StR bk m S w c1 l b (x.setCell ⟨bk, 2, none⟩ (.bool b)) := by
  have h1 := h.old
  have h2 := h.hm
  exact ⟨h.old, h.hm, h.o.set 2 (.bool b), by simpa [World.setCell] using h.lt, (Below.heap_setCell _ _ _ _ (by simp only; omega)).trans h.b0, (Below.heap_setCell _ _ _ _ (by simp only; omega)).trans h.b1, h.rd.spoil b⟩
theorem strR_start {bk : Nat} {S : List UInt8} {w x1 : World} {A : Obj} {l : List UInt8} {bad : Bool} (hA : A = .cells (ru5 0 0 0 0 0) 23) (hb : bk < w.heap.size) {m : Nat} (hmm : x1.heap.size = m) (o : Onl bk (w.alloc A) x1) (r : Rr bk S l bad x1) : StR bk m S w (ru5 1 0 0 0 7200) l bad (x1.alloc (.cells (ru5 1 0 0 0 7200) 23)) := by
  subst hmm
  have hs := o.size
  have hz : (w.alloc A).heap.size = w.heap.size + 1 := by show (w.heap.push A).size = _; simp
  have o1 : Onl bk w x1 := ((Onl.refl bk w).alloc hb A).trans o
  refine ⟨hb, by omega, o1.alloc hb _, by show _ < (x1.heap.push _).size; simp, ?_, ?_, r.alloc _⟩
  · rw [((Kept.refl x1).alloc _).block _ (by omega), o.block _ (by omega) (by omega), hA]
    show (w.heap.push _)[w.heap.size]? = _
    simp
  · show (x1.heap.push _)[x1.heap.size]? = _
    simp
theorem rulRk_J {l : List UInt8} (h : (skp 74 l).1 = true) : rulRk l = ((0, 0, 0, (numR (skp 74 l).2).1), (numR (skp 74 l).2).2.1, (numR (skp 74 l).2).2.2) := by
  unfold rulRk; rcases hk : skp 74 l with ⟨b, r⟩; rw [hk] at h; simp only at h; subst h; rfl
theorem rulRk_Z {l : List UInt8} (h : (skp 74 l).1 = false) (h2 : (skp 77 (skp 74 l).2).1 = false) : rulRk l = ((1, 0, 0, (numR (skp 77 (skp 74 l).2).2).1), (numR (skp 77 (skp 74 l).2).2).2.1, (numR (skp 77 (skp 74 l).2).2).2.2) := by
  unfold rulRk; rcases hk : skp 74 l with ⟨b, r⟩; rw [hk] at h h2; simp only at h; subst h
  simp only at h2 ⊢
  rcases hk2 : skp 77 r with ⟨b2, r2⟩; rw [hk2] at h2; simp only at h2; subst h2; rfl
theorem rulRk_M {l q : List UInt8} (h : (skp 74 l).1 = false) (h2 : (skp 77 (skp 74 l).2).1 = true) (h3 : (skp 77 (skp 74 l).2).2 = q) : rulRk l = ((2, (numR q).1, (numR (skp 46 (numR q).2.1).2).1, (numR (skp 46 (numR (skp 46 (numR q).2.1).2).2.1).2).1), (numR (skp 46 (numR (skp 46 (numR q).2.1).2).2.1).2).2.1,
        ((numR q).2.2 || (numR (skp 46 (numR q).2.1).2).2.2 || (numR (skp 46 (numR (skp 46 (numR q).2.1).2).2.1).2).2.2) || (!(skp 46 (numR q).2.1).1 || !(skp 46 (numR (skp 46 (numR q).2.1).2).2.1).1)) := by
  unfold rulRk; rcases hk : skp 74 l with ⟨b, r⟩; rw [hk] at h h2 h3; simp only at h; subst h
  simp only at h2 h3 ⊢
  rcases hk2 : skp 77 r with ⟨b2, r2⟩; rw [hk2] at h2 h3; simp only at h2 h3; subst h2; subst h3; rfl
theorem rulRa_yes {l : List UInt8} (h : (skp 47 l).1 = true) : rulRa l = timR (skp 47 l).2 := by
  unfold rulRa; rcases hk : skp 47 l with ⟨b, r⟩; rw [hk] at h; simp only at h; subst h; rfl
theorem rulRa_no {l : List UInt8} (h : (skp 47 l).1 = false) : rulRa l = (7200, (skp 47 l).2, false) := by
  unfold rulRa; rcases hk : skp 47 l with ⟨b, r⟩; rw [hk] at h; simp only at h; subst h; rfl
theorem rulR_of {l ld lf : List UInt8} {k m x d a : Int} {kb ab : Bool} (h1 : rulRk (skp 44 l).2 = ((k, m, x, d), ld, kb)) (h2 : rulRa ld = (a, lf, ab)) : rulR l = (⟨k, m, x, d, a⟩, lf, !(skp 44 l).1 || kb || ab) := by
  unfold rulR; rw [h1]; simp only; rw [h2]
set_option maxRecDepth 100000 in
set_option maxHeartbeats 8000000 in
theorem ruleR_any (S l : List UInt8) (bad : Bool) (bk : Nat) (w : World) (h : Rr bk S l bad w) :
    Calls Tryd.prog 35 #[.pointer (some ⟨bk, 0, none⟩)] w (StepR (ruV (rulR l).1) S (rulR l).2.1 (bad || (rulR l).2.2) bk w) := by
  have H := Lib.hid h; clear h
  have R0 := Lib.hid (H.out.alloc (.cells (ru5 0 0 0 0 0) 23))
  have RO := Lib.hid (fun ld lf k m x d a kb ab => @rulR_of l ld lf k m x d a kb ab)
  go_enter Tryd.func35, Tryd.ntmps35
  go_wp2_with fail
  refine (is_any 44 S l bad bk _ R0.out).mono ?_
  rintro e x1 ⟨rfl, o, r⟩
  have O := Lib.hid o; clear o
  have c2 := cell_of (j := 2) r.blk rfl
  have f1 := fro_of r.blk
  have R := Lib.hid r; clear r R0
  cases hc : (skp 44 l).1
  case' false =>
    go_wp2_with fail
    have S1 := Lib.hid (show StR bk x1.heap.size S w (ru5 1 0 0 0 7200) (skp 44 l).2 (bad || !(skp 44 l).1) ((x1.setCell ⟨bk, 2, none⟩ (.bool true)).alloc (.cells (ru5 1 0 0 0 7200) 23)) by rw [hc, show (bad || !false) = true by simp]; exact strR_start (A := .cells (ru5 0 0 0 0 0) 23) rfl H.out.lt (by simp [World.setCell]) (O.out.set 2 (.bool true)) (R.out.spoil true))
    clear c2 f1 hc O R H
    generalize (x1.setCell ⟨bk, 2, none⟩ (.bool true)).alloc (.cells (ru5 1 0 0 0 7200) 23) = x2 at *
  case' true =>
    go_wp2_with fail
    have S1 := Lib.hid (show StR bk x1.heap.size S w (ru5 1 0 0 0 7200) (skp 44 l).2 (bad || !(skp 44 l).1) (x1.alloc (.cells (ru5 1 0 0 0 7200) 23)) by rw [hc, show (bad || !true) = bad by simp]; exact strR_start (A := .cells (ru5 0 0 0 0 0) 23) rfl H.out.lt rfl O.out R.out)
    clear c2 f1 hc O R H
    generalize x1.alloc (.cells (ru5 1 0 0 0 7200) 23) = x2 at *
  all_goals
    generalize x1.heap.size = m at *
    generalize hb0 : (bad || !(skp 44 l).1) = b0 at S1
    have HB0 := Lib.hid hb0; clear hb0
    have RK := Lib.hid (fun ld lf k m x d a kb ab (h : rulRk (skp 44 l).2 = _) => RO.out ld lf k m x d a kb ab h); clear RO
    generalize (skp 44 l).2 = la at S1 RK
    refine (is_any 74 S la b0 bk _ S1.out.rd).mono ?_
    rintro e x3 ⟨rfl, o, r⟩
    have S3 := Lib.hid (S1.out.step o r); clear o r S1
    cases hJ : (skp 74 la).1 with
    | true =>
      have HK := Lib.hid (rulRk_J hJ); clear hJ
      generalize (skp 74 la).2 = lb at *
      have S4 := Lib.hid (show StR bk m S w (ru5 0 0 0 0 7200) _ b0 (x3.setCell ⟨m, 0, none⟩ (.int .i64 0)) from S3.out.set 0 (.int .i64 0))
      have c0 := cell_of (j := 0) S3.out.b1 rfl
      have c1 := cell_of (j := 1) S3.out.b1 rfl
      have c2 := cell_of (j := 2) S3.out.b1 rfl
      have c3 := cell_of (j := 3) S3.out.b1 rfl
      have c4 := cell_of (j := 4) S3.out.b1 rfl
      have f1 := fro_of S3.out.b1
      go_wp2_with fail
      clear c0 c1 c2 c3 c4 f1
      clear S3
      generalize x3.setCell ⟨m, 0, none⟩ (.int .i64 0) = x4 at *
      refine (numberR_any S lb _ bk _ S4.out.rd).mono ?_
      rintro e x5 ⟨rfl, o, r⟩
      have S5 := Lib.hid (S4.out.step o r); clear o r S4
      generalize (numR lb).1 = d at *
      generalize (numR lb).2.1 = le at *
      generalize (numR lb).2.2 = nb at *
      have S6 := Lib.hid (show StR bk m S w (ru5 0 0 0 d 7200) _ (b0 || nb) (x5.setCell ⟨m, 3, none⟩ (.int .i64 d)) from S5.out.set 3 (.int .i64 d))
      have c0 := cell_of (j := 0) S5.out.b1 rfl
      have c1 := cell_of (j := 1) S5.out.b1 rfl
      have c2 := cell_of (j := 2) S5.out.b1 rfl
      have c3 := cell_of (j := 3) S5.out.b1 rfl
      have c4 := cell_of (j := 4) S5.out.b1 rfl
      have f1 := fro_of S5.out.b1
      go_wp2_with fail
      clear c0 c1 c2 c3 c4 f1
      clear S5
      generalize x5.setCell ⟨m, 3, none⟩ (.int .i64 d) = x6 at *
      refine (is_any 47 S le _ bk _ S6.out.rd).mono ?_
      rintro e x7 ⟨rfl, o, r⟩
      have S7 := Lib.hid (S6.out.step o r); clear o r S6
      cases hA : (skp 47 le).1 with
      | true =>
        have HA := Lib.hid (rulRa_yes hA); clear hA
        generalize (skp 47 le).2 = lf at *
        go_wp2_with fail
        refine (timeR_any S lf _ bk _ S7.out.rd).mono ?_
        rintro e x8 ⟨rfl, o, r⟩
        have S8 := Lib.hid (S7.out.step o r); clear o r S7
        have HA2 := Lib.hid (show rulRa le = ((timR lf).1, (timR lf).2.1, (timR lf).2.2) from HA.out); clear HA
        generalize (timR lf).1 = a at *
        generalize (timR lf).2.1 = lg at *
        generalize (timR lf).2.2 = ab at *
        have RE := Lib.hid (RK.out _ _ _ _ _ _ _ _ _ HK.out HA2.out); clear RK HK HA2
        have c0 := cell_of (j := 0) S8.out.b1 rfl
        have c1 := cell_of (j := 1) S8.out.b1 rfl
        have c2 := cell_of (j := 2) S8.out.b1 rfl
        have c3 := cell_of (j := 3) S8.out.b1 rfl
        have c4 := cell_of (j := 4) S8.out.b1 rfl
        have f1 := fro_of S8.out.b1
        have z0 := cell_of (j := 0) S8.out.b0 rfl
        have z1 := cell_of (j := 1) S8.out.b0 rfl
        have z2 := cell_of (j := 2) S8.out.b0 rfl
        have z3 := cell_of (j := 3) S8.out.b0 rfl
        have z4 := cell_of (j := 4) S8.out.b0 rfl
        have f0 := fro_of S8.out.b0
        have p1 : ¬ w.heap.size = m := by have := S8.out.hm; omega
        have p2 : ¬ m = w.heap.size := by omega
        have SZ := Lib.hid (show StR bk m S w (ru5 0 0 0 d a) _ (bad || (!(skp 44 l).1 || nb || ab)) (x8.setCell ⟨m, 4, none⟩ (.int .i64 a)) by rw [show (bad || (!(skp 44 l).1 || nb || ab)) = ((b0 || nb) || ab) by rw [← HB0.out]; simp [Bool.or_assoc]]; exact S8.out.set 4 (.int .i64 a))
        go_wp2
        rw [RE.out]
        refine bodyPost_ret (v := ruV ⟨0, 0, 0, d, a⟩) (by simp [results, Tryd.results35, go_sem, *]) rfl ⟨rfl, ?_, ?_⟩
        · exact ((((SZ.out.o.setNew (by simp) _).setNew (by simp) _).setNew (by simp) _).setNew (by simp) _).setNew (by simp) _
        · exact ((((SZ.out.rd.set (by have := SZ.out.old; simp only; omega) _).set (by have := SZ.out.old; simp only; omega) _).set (by have := SZ.out.old; simp only; omega) _).set (by have := SZ.out.old; simp only; omega) _).set (by have := SZ.out.old; simp only; omega) _
      | false =>
        have HA2 := Lib.hid (rulRa_no hA); clear hA
        generalize (skp 47 le).2 = lg at *
        have RE := Lib.hid (RK.out _ _ _ _ _ _ _ _ _ HK.out HA2.out); clear RK HK HA2
        have c0 := cell_of (j := 0) S7.out.b1 rfl
        have c1 := cell_of (j := 1) S7.out.b1 rfl
        have c2 := cell_of (j := 2) S7.out.b1 rfl
        have c3 := cell_of (j := 3) S7.out.b1 rfl
        have c4 := cell_of (j := 4) S7.out.b1 rfl
        have f1 := fro_of S7.out.b1
        have z0 := cell_of (j := 0) S7.out.b0 rfl
        have z1 := cell_of (j := 1) S7.out.b0 rfl
        have z2 := cell_of (j := 2) S7.out.b0 rfl
        have z3 := cell_of (j := 3) S7.out.b0 rfl
        have z4 := cell_of (j := 4) S7.out.b0 rfl
        have f0 := fro_of S7.out.b0
        have p1 : ¬ w.heap.size = m := by have := S7.out.hm; omega
        have p2 : ¬ m = w.heap.size := by omega
        have SZ := Lib.hid (show StR bk m S w (ru5 0 0 0 d 7200) _ (bad || (!(skp 44 l).1 || nb || false)) x7 by rw [show (bad || (!(skp 44 l).1 || nb || false)) = (b0 || nb) by rw [← HB0.out]; simp [Bool.or_assoc]]; exact S7.out)
        go_wp2
        rw [RE.out]
        refine bodyPost_ret (v := ruV ⟨0, 0, 0, d, 7200⟩) (by simp [results, Tryd.results35, go_sem, *]) rfl ⟨rfl, ?_, ?_⟩
        · exact ((((SZ.out.o.setNew (by simp) _).setNew (by simp) _).setNew (by simp) _).setNew (by simp) _).setNew (by simp) _
        · exact ((((SZ.out.rd.set (by have := SZ.out.old; simp only; omega) _).set (by have := SZ.out.old; simp only; omega) _).set (by have := SZ.out.old; simp only; omega) _).set (by have := SZ.out.old; simp only; omega) _).set (by have := SZ.out.old; simp only; omega) _
    | false =>
      have HM := Lib.hid (fun q => @rulRk_M la q hJ)
      have HZ := Lib.hid (@rulRk_Z la hJ); clear hJ
      generalize (skp 74 la).2 = lb at *
      go_wp2_with fail
      refine (is_any 77 S lb _ bk _ S3.out.rd).mono ?_
      rintro e x4 ⟨rfl, o, r⟩
      have S4 := Lib.hid (S3.out.step o r); clear o r S3
      cases hM : (skp 77 lb).1 with
      | true =>
        have HK := Lib.hid (HM.out _ hM rfl); clear hM HM HZ
        generalize (skp 77 lb).2 = lm at *
        have S5 := Lib.hid (show StR bk m S w (ru5 2 0 0 0 7200) _ b0 (x4.setCell ⟨m, 0, none⟩ (.int .i64 2)) from S4.out.set 0 (.int .i64 2))
        have c0 := cell_of (j := 0) S4.out.b1 rfl
        have c1 := cell_of (j := 1) S4.out.b1 rfl
        have c2 := cell_of (j := 2) S4.out.b1 rfl
        have c3 := cell_of (j := 3) S4.out.b1 rfl
        have c4 := cell_of (j := 4) S4.out.b1 rfl
        have f1 := fro_of S4.out.b1
        go_wp2_with fail
        clear c0 c1 c2 c3 c4 f1
        clear S4
        generalize x4.setCell ⟨m, 0, none⟩ (.int .i64 2) = x5 at *
        refine (numberR_any S lm _ bk _ S5.out.rd).mono ?_
        rintro e x6 ⟨rfl, o, r⟩
        have S6 := Lib.hid (S5.out.step o r); clear o r S5
        generalize (numR lm).1 = mo at *
        generalize (numR lm).2.1 = ln at *
        generalize (numR lm).2.2 = b1 at *
        have S7 := Lib.hid (show StR bk m S w (ru5 2 mo 0 0 7200) _ (b0 || b1) (x6.setCell ⟨m, 1, none⟩ (.int .i64 mo)) from S6.out.set 1 (.int .i64 mo))
        have c0 := cell_of (j := 0) S6.out.b1 rfl
        have c1 := cell_of (j := 1) S6.out.b1 rfl
        have c2 := cell_of (j := 2) S6.out.b1 rfl
        have c3 := cell_of (j := 3) S6.out.b1 rfl
        have c4 := cell_of (j := 4) S6.out.b1 rfl
        have f1 := fro_of S6.out.b1
        go_wp2_with fail
        clear c0 c1 c2 c3 c4 f1
        clear S6
        generalize x6.setCell ⟨m, 1, none⟩ (.int .i64 mo) = x7 at *
        refine (is_any 46 S ln _ bk _ S7.out.rd).mono ?_
        rintro e x8 ⟨rfl, o, r⟩
        have S8 := Lib.hid (S7.out.step o r); clear o r S7
        generalize hln : (skp 46 ln).2 = lo at *
        clear hln
        go_wp2_with fail
        refine (numberR_any S lo _ bk _ S8.out.rd).mono ?_
        rintro e x9 ⟨rfl, o, r⟩
        have S9 := Lib.hid (S8.out.step o r); clear o r S8
        generalize (numR lo).1 = x at *
        generalize (numR lo).2.1 = lp at *
        generalize (numR lo).2.2 = b2 at *
        have S10 := Lib.hid (show StR bk m S w (ru5 2 mo x 0 7200) _ ((b0 || b1) || b2) (x9.setCell ⟨m, 2, none⟩ (.int .i64 x)) from S9.out.set 2 (.int .i64 x))
        have c0 := cell_of (j := 0) S9.out.b1 rfl
        have c1 := cell_of (j := 1) S9.out.b1 rfl
        have c2 := cell_of (j := 2) S9.out.b1 rfl
        have c3 := cell_of (j := 3) S9.out.b1 rfl
        have c4 := cell_of (j := 4) S9.out.b1 rfl
        have f1 := fro_of S9.out.b1
        go_wp2_with fail
        clear c0 c1 c2 c3 c4 f1
        clear S9
        generalize x9.setCell ⟨m, 2, none⟩ (.int .i64 x) = x10 at *
        refine (is_any 46 S lp _ bk _ S10.out.rd).mono ?_
        rintro e x11 ⟨rfl, o, r⟩
        have S11 := Lib.hid (S10.out.step o r); clear o r S10
        generalize hlp : (skp 46 lp).2 = lq at *
        clear hlp
        go_wp2_with fail
        refine (numberR_any S lq _ bk _ S11.out.rd).mono ?_
        rintro e x12 ⟨rfl, o, r⟩
        have S12 := Lib.hid (S11.out.step o r); clear o r S11
        generalize (numR lq).1 = d at *
        generalize (numR lq).2.1 = le at *
        generalize (numR lq).2.2 = b3 at *
        cases ho : (skp 46 ln).1 with
        | false =>
          have S13 := Lib.hid (show StR bk m S w (ru5 2 mo x d 7200) _ ((((b0 || b1) || b2) || b3) || (!(skp 46 ln).1 || !(skp 46 lp).1)) ((x12.setCell ⟨m, 3, none⟩ (.int .i64 d)).setCell ⟨bk, 2, none⟩ (.bool true)) by rw [show ((((b0 || b1) || b2) || b3) || (!(skp 46 ln).1 || !(skp 46 lp).1)) = true by rw [ho]; simp]; exact (S12.out.set 3 (.int .i64 d)).spoil true)
          have e2 := cell_of (j := 2) S12.out.rd.blk rfl
          have fb := fro_of S12.out.rd.blk
          have n1 : ¬ bk = m := by have := S12.out.old; have := S12.out.hm; omega
          have n2 : ¬ m = bk := by omega
          have c0 := cell_of (j := 0) S12.out.b1 rfl
          have c1 := cell_of (j := 1) S12.out.b1 rfl
          have c2 := cell_of (j := 2) S12.out.b1 rfl
          have c3 := cell_of (j := 3) S12.out.b1 rfl
          have c4 := cell_of (j := 4) S12.out.b1 rfl
          have f1 := fro_of S12.out.b1
          go_wp2_with fail
          clear c0 c1 c2 c3 c4 f1 e2 fb n1 n2
          clear S12
          generalize (x12.setCell ⟨m, 3, none⟩ (.int .i64 d)).setCell ⟨bk, 2, none⟩ (.bool true) = x13 at *
          clear ho
          refine (is_any 47 S le _ bk _ S13.out.rd).mono ?_
          rintro e x14 ⟨rfl, o, r⟩
          have S14 := Lib.hid (S13.out.step o r); clear o r S13
          cases hA : (skp 47 le).1 with
          | true =>
            have HA := Lib.hid (rulRa_yes hA); clear hA
            generalize (skp 47 le).2 = lf at *
            go_wp2_with fail
            refine (timeR_any S lf _ bk _ S14.out.rd).mono ?_
            rintro e x15 ⟨rfl, o, r⟩
            have S15 := Lib.hid (S14.out.step o r); clear o r S14
            have HA2 := Lib.hid (show rulRa le = ((timR lf).1, (timR lf).2.1, (timR lf).2.2) from HA.out); clear HA
            generalize (timR lf).1 = a at *
            generalize (timR lf).2.1 = lg at *
            generalize (timR lf).2.2 = ab at *
            have RE := Lib.hid (RK.out _ _ _ _ _ _ _ _ _ HK.out HA2.out); clear RK HK HA2
            have c0 := cell_of (j := 0) S15.out.b1 rfl
            have c1 := cell_of (j := 1) S15.out.b1 rfl
            have c2 := cell_of (j := 2) S15.out.b1 rfl
            have c3 := cell_of (j := 3) S15.out.b1 rfl
            have c4 := cell_of (j := 4) S15.out.b1 rfl
            have f1 := fro_of S15.out.b1
            have z0 := cell_of (j := 0) S15.out.b0 rfl
            have z1 := cell_of (j := 1) S15.out.b0 rfl
            have z2 := cell_of (j := 2) S15.out.b0 rfl
            have z3 := cell_of (j := 3) S15.out.b0 rfl
            have z4 := cell_of (j := 4) S15.out.b0 rfl
            have f0 := fro_of S15.out.b0
            have p1 : ¬ w.heap.size = m := by have := S15.out.hm; omega
            have p2 : ¬ m = w.heap.size := by omega
            have SZ := Lib.hid (show StR bk m S w (ru5 2 mo x d a) _ (bad || (!(skp 44 l).1 || ((b1 || b2 || b3) || (!(skp 46 ln).1 || !(skp 46 lp).1)) || ab)) (x15.setCell ⟨m, 4, none⟩ (.int .i64 a)) by rw [show (bad || (!(skp 44 l).1 || ((b1 || b2 || b3) || (!(skp 46 ln).1 || !(skp 46 lp).1)) || ab)) = (((((b0 || b1) || b2) || b3) || (!(skp 46 ln).1 || !(skp 46 lp).1)) || ab) by rw [← HB0.out]; simp [Bool.or_assoc]]; exact S15.out.set 4 (.int .i64 a))
            go_wp2
            rw [RE.out]
            refine bodyPost_ret (v := ruV ⟨2, mo, x, d, a⟩) (by simp [results, Tryd.results35, go_sem, *]) rfl ⟨rfl, ?_, ?_⟩
            · exact ((((SZ.out.o.setNew (by simp) _).setNew (by simp) _).setNew (by simp) _).setNew (by simp) _).setNew (by simp) _
            · exact ((((SZ.out.rd.set (by have := SZ.out.old; simp only; omega) _).set (by have := SZ.out.old; simp only; omega) _).set (by have := SZ.out.old; simp only; omega) _).set (by have := SZ.out.old; simp only; omega) _).set (by have := SZ.out.old; simp only; omega) _
          | false =>
            have HA2 := Lib.hid (rulRa_no hA); clear hA
            generalize (skp 47 le).2 = lg at *
            have RE := Lib.hid (RK.out _ _ _ _ _ _ _ _ _ HK.out HA2.out); clear RK HK HA2
            have c0 := cell_of (j := 0) S14.out.b1 rfl
            have c1 := cell_of (j := 1) S14.out.b1 rfl
            have c2 := cell_of (j := 2) S14.out.b1 rfl
            have c3 := cell_of (j := 3) S14.out.b1 rfl
            have c4 := cell_of (j := 4) S14.out.b1 rfl
            have f1 := fro_of S14.out.b1
            have z0 := cell_of (j := 0) S14.out.b0 rfl
            have z1 := cell_of (j := 1) S14.out.b0 rfl
            have z2 := cell_of (j := 2) S14.out.b0 rfl
            have z3 := cell_of (j := 3) S14.out.b0 rfl
            have z4 := cell_of (j := 4) S14.out.b0 rfl
            have f0 := fro_of S14.out.b0
            have p1 : ¬ w.heap.size = m := by have := S14.out.hm; omega
            have p2 : ¬ m = w.heap.size := by omega
            have SZ := Lib.hid (show StR bk m S w (ru5 2 mo x d 7200) _ (bad || (!(skp 44 l).1 || ((b1 || b2 || b3) || (!(skp 46 ln).1 || !(skp 46 lp).1)) || false)) x14 by rw [show (bad || (!(skp 44 l).1 || ((b1 || b2 || b3) || (!(skp 46 ln).1 || !(skp 46 lp).1)) || false)) = ((((b0 || b1) || b2) || b3) || (!(skp 46 ln).1 || !(skp 46 lp).1)) by rw [← HB0.out]; simp [Bool.or_assoc]]; exact S14.out)
            go_wp2
            rw [RE.out]
            refine bodyPost_ret (v := ruV ⟨2, mo, x, d, 7200⟩) (by simp [results, Tryd.results35, go_sem, *]) rfl ⟨rfl, ?_, ?_⟩
            · exact ((((SZ.out.o.setNew (by simp) _).setNew (by simp) _).setNew (by simp) _).setNew (by simp) _).setNew (by simp) _
            · exact ((((SZ.out.rd.set (by have := SZ.out.old; simp only; omega) _).set (by have := SZ.out.old; simp only; omega) _).set (by have := SZ.out.old; simp only; omega) _).set (by have := SZ.out.old; simp only; omega) _).set (by have := SZ.out.old; simp only; omega) _
        | true =>
          cases hp : (skp 46 lp).1 with
          | false =>
            have S13 := Lib.hid (show StR bk m S w (ru5 2 mo x d 7200) _ ((((b0 || b1) || b2) || b3) || (!(skp 46 ln).1 || !(skp 46 lp).1)) ((x12.setCell ⟨m, 3, none⟩ (.int .i64 d)).setCell ⟨bk, 2, none⟩ (.bool true)) by rw [show ((((b0 || b1) || b2) || b3) || (!(skp 46 ln).1 || !(skp 46 lp).1)) = true by rw [hp]; simp]; exact (S12.out.set 3 (.int .i64 d)).spoil true)
            have e2 := cell_of (j := 2) S12.out.rd.blk rfl
            have fb := fro_of S12.out.rd.blk
            have n1 : ¬ bk = m := by have := S12.out.old; have := S12.out.hm; omega
            have n2 : ¬ m = bk := by omega
            have c0 := cell_of (j := 0) S12.out.b1 rfl
            have c1 := cell_of (j := 1) S12.out.b1 rfl
            have c2 := cell_of (j := 2) S12.out.b1 rfl
            have c3 := cell_of (j := 3) S12.out.b1 rfl
            have c4 := cell_of (j := 4) S12.out.b1 rfl
            have f1 := fro_of S12.out.b1
            go_wp2_with fail
            clear c0 c1 c2 c3 c4 f1 e2 fb n1 n2
            clear S12
            generalize (x12.setCell ⟨m, 3, none⟩ (.int .i64 d)).setCell ⟨bk, 2, none⟩ (.bool true) = x13 at *
            clear ho hp
            refine (is_any 47 S le _ bk _ S13.out.rd).mono ?_
            rintro e x14 ⟨rfl, o, r⟩
            have S14 := Lib.hid (S13.out.step o r); clear o r S13
            cases hA : (skp 47 le).1 with
            | true =>
              have HA := Lib.hid (rulRa_yes hA); clear hA
              generalize (skp 47 le).2 = lf at *
              go_wp2_with fail
              refine (timeR_any S lf _ bk _ S14.out.rd).mono ?_
              rintro e x15 ⟨rfl, o, r⟩
              have S15 := Lib.hid (S14.out.step o r); clear o r S14
              have HA2 := Lib.hid (show rulRa le = ((timR lf).1, (timR lf).2.1, (timR lf).2.2) from HA.out); clear HA
              generalize (timR lf).1 = a at *
              generalize (timR lf).2.1 = lg at *
              generalize (timR lf).2.2 = ab at *
              have RE := Lib.hid (RK.out _ _ _ _ _ _ _ _ _ HK.out HA2.out); clear RK HK HA2
              have c0 := cell_of (j := 0) S15.out.b1 rfl
              have c1 := cell_of (j := 1) S15.out.b1 rfl
              have c2 := cell_of (j := 2) S15.out.b1 rfl
              have c3 := cell_of (j := 3) S15.out.b1 rfl
              have c4 := cell_of (j := 4) S15.out.b1 rfl
              have f1 := fro_of S15.out.b1
              have z0 := cell_of (j := 0) S15.out.b0 rfl
              have z1 := cell_of (j := 1) S15.out.b0 rfl
              have z2 := cell_of (j := 2) S15.out.b0 rfl
              have z3 := cell_of (j := 3) S15.out.b0 rfl
              have z4 := cell_of (j := 4) S15.out.b0 rfl
              have f0 := fro_of S15.out.b0
              have p1 : ¬ w.heap.size = m := by have := S15.out.hm; omega
              have p2 : ¬ m = w.heap.size := by omega
              have SZ := Lib.hid (show StR bk m S w (ru5 2 mo x d a) _ (bad || (!(skp 44 l).1 || ((b1 || b2 || b3) || (!(skp 46 ln).1 || !(skp 46 lp).1)) || ab)) (x15.setCell ⟨m, 4, none⟩ (.int .i64 a)) by rw [show (bad || (!(skp 44 l).1 || ((b1 || b2 || b3) || (!(skp 46 ln).1 || !(skp 46 lp).1)) || ab)) = (((((b0 || b1) || b2) || b3) || (!(skp 46 ln).1 || !(skp 46 lp).1)) || ab) by rw [← HB0.out]; simp [Bool.or_assoc]]; exact S15.out.set 4 (.int .i64 a))
              go_wp2
              rw [RE.out]
              refine bodyPost_ret (v := ruV ⟨2, mo, x, d, a⟩) (by simp [results, Tryd.results35, go_sem, *]) rfl ⟨rfl, ?_, ?_⟩
              · exact ((((SZ.out.o.setNew (by simp) _).setNew (by simp) _).setNew (by simp) _).setNew (by simp) _).setNew (by simp) _
              · exact ((((SZ.out.rd.set (by have := SZ.out.old; simp only; omega) _).set (by have := SZ.out.old; simp only; omega) _).set (by have := SZ.out.old; simp only; omega) _).set (by have := SZ.out.old; simp only; omega) _).set (by have := SZ.out.old; simp only; omega) _
            | false =>
              have HA2 := Lib.hid (rulRa_no hA); clear hA
              generalize (skp 47 le).2 = lg at *
              have RE := Lib.hid (RK.out _ _ _ _ _ _ _ _ _ HK.out HA2.out); clear RK HK HA2
              have c0 := cell_of (j := 0) S14.out.b1 rfl
              have c1 := cell_of (j := 1) S14.out.b1 rfl
              have c2 := cell_of (j := 2) S14.out.b1 rfl
              have c3 := cell_of (j := 3) S14.out.b1 rfl
              have c4 := cell_of (j := 4) S14.out.b1 rfl
              have f1 := fro_of S14.out.b1
              have z0 := cell_of (j := 0) S14.out.b0 rfl
              have z1 := cell_of (j := 1) S14.out.b0 rfl
              have z2 := cell_of (j := 2) S14.out.b0 rfl
              have z3 := cell_of (j := 3) S14.out.b0 rfl
              have z4 := cell_of (j := 4) S14.out.b0 rfl
              have f0 := fro_of S14.out.b0
              have p1 : ¬ w.heap.size = m := by have := S14.out.hm; omega
              have p2 : ¬ m = w.heap.size := by omega
              have SZ := Lib.hid (show StR bk m S w (ru5 2 mo x d 7200) _ (bad || (!(skp 44 l).1 || ((b1 || b2 || b3) || (!(skp 46 ln).1 || !(skp 46 lp).1)) || false)) x14 by rw [show (bad || (!(skp 44 l).1 || ((b1 || b2 || b3) || (!(skp 46 ln).1 || !(skp 46 lp).1)) || false)) = ((((b0 || b1) || b2) || b3) || (!(skp 46 ln).1 || !(skp 46 lp).1)) by rw [← HB0.out]; simp [Bool.or_assoc]]; exact S14.out)
              go_wp2
              rw [RE.out]
              refine bodyPost_ret (v := ruV ⟨2, mo, x, d, 7200⟩) (by simp [results, Tryd.results35, go_sem, *]) rfl ⟨rfl, ?_, ?_⟩
              · exact ((((SZ.out.o.setNew (by simp) _).setNew (by simp) _).setNew (by simp) _).setNew (by simp) _).setNew (by simp) _
              · exact ((((SZ.out.rd.set (by have := SZ.out.old; simp only; omega) _).set (by have := SZ.out.old; simp only; omega) _).set (by have := SZ.out.old; simp only; omega) _).set (by have := SZ.out.old; simp only; omega) _).set (by have := SZ.out.old; simp only; omega) _
          | true =>
            have SB := Lib.hid (show StR bk m S w (ru5 2 mo x 0 7200) _ ((((b0 || b1) || b2) || b3) || (!(skp 46 ln).1 || !(skp 46 lp).1)) x12 by rw [show ((((b0 || b1) || b2) || b3) || (!(skp 46 ln).1 || !(skp 46 lp).1)) = (((b0 || b1) || b2) || b3) by rw [ho, hp]; simp]; exact S12.out); clear S12
            have S13 := Lib.hid (show StR bk m S w (ru5 2 mo x d 7200) _ ((((b0 || b1) || b2) || b3) || (!(skp 46 ln).1 || !(skp 46 lp).1)) (x12.setCell ⟨m, 3, none⟩ (.int .i64 d)) from SB.out.set 3 (.int .i64 d))
            have c0 := cell_of (j := 0) SB.out.b1 rfl
            have c1 := cell_of (j := 1) SB.out.b1 rfl
            have c2 := cell_of (j := 2) SB.out.b1 rfl
            have c3 := cell_of (j := 3) SB.out.b1 rfl
            have c4 := cell_of (j := 4) SB.out.b1 rfl
            have f1 := fro_of SB.out.b1
            go_wp2_with fail
            clear c0 c1 c2 c3 c4 f1
            clear SB
            generalize x12.setCell ⟨m, 3, none⟩ (.int .i64 d) = x13 at *
            clear ho hp
            refine (is_any 47 S le _ bk _ S13.out.rd).mono ?_
            rintro e x14 ⟨rfl, o, r⟩
            have S14 := Lib.hid (S13.out.step o r); clear o r S13
            cases hA : (skp 47 le).1 with
            | true =>
              have HA := Lib.hid (rulRa_yes hA); clear hA
              generalize (skp 47 le).2 = lf at *
              go_wp2_with fail
              refine (timeR_any S lf _ bk _ S14.out.rd).mono ?_
              rintro e x15 ⟨rfl, o, r⟩
              have S15 := Lib.hid (S14.out.step o r); clear o r S14
              have HA2 := Lib.hid (show rulRa le = ((timR lf).1, (timR lf).2.1, (timR lf).2.2) from HA.out); clear HA
              generalize (timR lf).1 = a at *
              generalize (timR lf).2.1 = lg at *
              generalize (timR lf).2.2 = ab at *
              have RE := Lib.hid (RK.out _ _ _ _ _ _ _ _ _ HK.out HA2.out); clear RK HK HA2
              have c0 := cell_of (j := 0) S15.out.b1 rfl
              have c1 := cell_of (j := 1) S15.out.b1 rfl
              have c2 := cell_of (j := 2) S15.out.b1 rfl
              have c3 := cell_of (j := 3) S15.out.b1 rfl
              have c4 := cell_of (j := 4) S15.out.b1 rfl
              have f1 := fro_of S15.out.b1
              have z0 := cell_of (j := 0) S15.out.b0 rfl
              have z1 := cell_of (j := 1) S15.out.b0 rfl
              have z2 := cell_of (j := 2) S15.out.b0 rfl
              have z3 := cell_of (j := 3) S15.out.b0 rfl
              have z4 := cell_of (j := 4) S15.out.b0 rfl
              have f0 := fro_of S15.out.b0
              have p1 : ¬ w.heap.size = m := by have := S15.out.hm; omega
              have p2 : ¬ m = w.heap.size := by omega
              have SZ := Lib.hid (show StR bk m S w (ru5 2 mo x d a) _ (bad || (!(skp 44 l).1 || ((b1 || b2 || b3) || (!(skp 46 ln).1 || !(skp 46 lp).1)) || ab)) (x15.setCell ⟨m, 4, none⟩ (.int .i64 a)) by rw [show (bad || (!(skp 44 l).1 || ((b1 || b2 || b3) || (!(skp 46 ln).1 || !(skp 46 lp).1)) || ab)) = (((((b0 || b1) || b2) || b3) || (!(skp 46 ln).1 || !(skp 46 lp).1)) || ab) by rw [← HB0.out]; simp [Bool.or_assoc]]; exact S15.out.set 4 (.int .i64 a))
              go_wp2
              rw [RE.out]
              refine bodyPost_ret (v := ruV ⟨2, mo, x, d, a⟩) (by simp [results, Tryd.results35, go_sem, *]) rfl ⟨rfl, ?_, ?_⟩
              · exact ((((SZ.out.o.setNew (by simp) _).setNew (by simp) _).setNew (by simp) _).setNew (by simp) _).setNew (by simp) _
              · exact ((((SZ.out.rd.set (by have := SZ.out.old; simp only; omega) _).set (by have := SZ.out.old; simp only; omega) _).set (by have := SZ.out.old; simp only; omega) _).set (by have := SZ.out.old; simp only; omega) _).set (by have := SZ.out.old; simp only; omega) _
            | false =>
              have HA2 := Lib.hid (rulRa_no hA); clear hA
              generalize (skp 47 le).2 = lg at *
              have RE := Lib.hid (RK.out _ _ _ _ _ _ _ _ _ HK.out HA2.out); clear RK HK HA2
              have c0 := cell_of (j := 0) S14.out.b1 rfl
              have c1 := cell_of (j := 1) S14.out.b1 rfl
              have c2 := cell_of (j := 2) S14.out.b1 rfl
              have c3 := cell_of (j := 3) S14.out.b1 rfl
              have c4 := cell_of (j := 4) S14.out.b1 rfl
              have f1 := fro_of S14.out.b1
              have z0 := cell_of (j := 0) S14.out.b0 rfl
              have z1 := cell_of (j := 1) S14.out.b0 rfl
              have z2 := cell_of (j := 2) S14.out.b0 rfl
              have z3 := cell_of (j := 3) S14.out.b0 rfl
              have z4 := cell_of (j := 4) S14.out.b0 rfl
              have f0 := fro_of S14.out.b0
              have p1 : ¬ w.heap.size = m := by have := S14.out.hm; omega
              have p2 : ¬ m = w.heap.size := by omega
              have SZ := Lib.hid (show StR bk m S w (ru5 2 mo x d 7200) _ (bad || (!(skp 44 l).1 || ((b1 || b2 || b3) || (!(skp 46 ln).1 || !(skp 46 lp).1)) || false)) x14 by rw [show (bad || (!(skp 44 l).1 || ((b1 || b2 || b3) || (!(skp 46 ln).1 || !(skp 46 lp).1)) || false)) = ((((b0 || b1) || b2) || b3) || (!(skp 46 ln).1 || !(skp 46 lp).1)) by rw [← HB0.out]; simp [Bool.or_assoc]]; exact S14.out)
              go_wp2
              rw [RE.out]
              refine bodyPost_ret (v := ruV ⟨2, mo, x, d, 7200⟩) (by simp [results, Tryd.results35, go_sem, *]) rfl ⟨rfl, ?_, ?_⟩
              · exact ((((SZ.out.o.setNew (by simp) _).setNew (by simp) _).setNew (by simp) _).setNew (by simp) _).setNew (by simp) _
              · exact ((((SZ.out.rd.set (by have := SZ.out.old; simp only; omega) _).set (by have := SZ.out.old; simp only; omega) _).set (by have := SZ.out.old; simp only; omega) _).set (by have := SZ.out.old; simp only; omega) _).set (by have := SZ.out.old; simp only; omega) _
      | false =>
        have HK := Lib.hid (HZ.out hM); clear hM HM HZ
        generalize (skp 77 lb).2 = lm at *
        go_wp2_with fail
        refine (numberR_any S lm _ bk _ S4.out.rd).mono ?_
        rintro e x5 ⟨rfl, o, r⟩
        have S5 := Lib.hid (S4.out.step o r); clear o r S4
        generalize (numR lm).1 = d at *
        generalize (numR lm).2.1 = le at *
        generalize (numR lm).2.2 = nb at *
        have S6 := Lib.hid (show StR bk m S w (ru5 1 0 0 d 7200) _ (b0 || nb) (x5.setCell ⟨m, 3, none⟩ (.int .i64 d)) from S5.out.set 3 (.int .i64 d))
        have c0 := cell_of (j := 0) S5.out.b1 rfl
        have c1 := cell_of (j := 1) S5.out.b1 rfl
        have c2 := cell_of (j := 2) S5.out.b1 rfl
        have c3 := cell_of (j := 3) S5.out.b1 rfl
        have c4 := cell_of (j := 4) S5.out.b1 rfl
        have f1 := fro_of S5.out.b1
        go_wp2_with fail
        clear c0 c1 c2 c3 c4 f1
        clear S5
        generalize x5.setCell ⟨m, 3, none⟩ (.int .i64 d) = x6 at *
        refine (is_any 47 S le _ bk _ S6.out.rd).mono ?_
        rintro e x7 ⟨rfl, o, r⟩
        have S7 := Lib.hid (S6.out.step o r); clear o r S6
        cases hA : (skp 47 le).1 with
        | true =>
          have HA := Lib.hid (rulRa_yes hA); clear hA
          generalize (skp 47 le).2 = lf at *
          go_wp2_with fail
          refine (timeR_any S lf _ bk _ S7.out.rd).mono ?_
          rintro e x8 ⟨rfl, o, r⟩
          have S8 := Lib.hid (S7.out.step o r); clear o r S7
          have HA2 := Lib.hid (show rulRa le = ((timR lf).1, (timR lf).2.1, (timR lf).2.2) from HA.out); clear HA
          generalize (timR lf).1 = a at *
          generalize (timR lf).2.1 = lg at *
          generalize (timR lf).2.2 = ab at *
          have RE := Lib.hid (RK.out _ _ _ _ _ _ _ _ _ HK.out HA2.out); clear RK HK HA2
          have c0 := cell_of (j := 0) S8.out.b1 rfl
          have c1 := cell_of (j := 1) S8.out.b1 rfl
          have c2 := cell_of (j := 2) S8.out.b1 rfl
          have c3 := cell_of (j := 3) S8.out.b1 rfl
          have c4 := cell_of (j := 4) S8.out.b1 rfl
          have f1 := fro_of S8.out.b1
          have z0 := cell_of (j := 0) S8.out.b0 rfl
          have z1 := cell_of (j := 1) S8.out.b0 rfl
          have z2 := cell_of (j := 2) S8.out.b0 rfl
          have z3 := cell_of (j := 3) S8.out.b0 rfl
          have z4 := cell_of (j := 4) S8.out.b0 rfl
          have f0 := fro_of S8.out.b0
          have p1 : ¬ w.heap.size = m := by have := S8.out.hm; omega
          have p2 : ¬ m = w.heap.size := by omega
          have SZ := Lib.hid (show StR bk m S w (ru5 1 0 0 d a) _ (bad || (!(skp 44 l).1 || nb || ab)) (x8.setCell ⟨m, 4, none⟩ (.int .i64 a)) by rw [show (bad || (!(skp 44 l).1 || nb || ab)) = ((b0 || nb) || ab) by rw [← HB0.out]; simp [Bool.or_assoc]]; exact S8.out.set 4 (.int .i64 a))
          go_wp2
          rw [RE.out]
          refine bodyPost_ret (v := ruV ⟨1, 0, 0, d, a⟩) (by simp [results, Tryd.results35, go_sem, *]) rfl ⟨rfl, ?_, ?_⟩
          · exact ((((SZ.out.o.setNew (by simp) _).setNew (by simp) _).setNew (by simp) _).setNew (by simp) _).setNew (by simp) _
          · exact ((((SZ.out.rd.set (by have := SZ.out.old; simp only; omega) _).set (by have := SZ.out.old; simp only; omega) _).set (by have := SZ.out.old; simp only; omega) _).set (by have := SZ.out.old; simp only; omega) _).set (by have := SZ.out.old; simp only; omega) _
        | false =>
          have HA2 := Lib.hid (rulRa_no hA); clear hA
          generalize (skp 47 le).2 = lg at *
          have RE := Lib.hid (RK.out _ _ _ _ _ _ _ _ _ HK.out HA2.out); clear RK HK HA2
          have c0 := cell_of (j := 0) S7.out.b1 rfl
          have c1 := cell_of (j := 1) S7.out.b1 rfl
          have c2 := cell_of (j := 2) S7.out.b1 rfl
          have c3 := cell_of (j := 3) S7.out.b1 rfl
          have c4 := cell_of (j := 4) S7.out.b1 rfl
          have f1 := fro_of S7.out.b1
          have z0 := cell_of (j := 0) S7.out.b0 rfl
          have z1 := cell_of (j := 1) S7.out.b0 rfl
          have z2 := cell_of (j := 2) S7.out.b0 rfl
          have z3 := cell_of (j := 3) S7.out.b0 rfl
          have z4 := cell_of (j := 4) S7.out.b0 rfl
          have f0 := fro_of S7.out.b0
          have p1 : ¬ w.heap.size = m := by have := S7.out.hm; omega
          have p2 : ¬ m = w.heap.size := by omega
          have SZ := Lib.hid (show StR bk m S w (ru5 1 0 0 d 7200) _ (bad || (!(skp 44 l).1 || nb || false)) x7 by rw [show (bad || (!(skp 44 l).1 || nb || false)) = (b0 || nb) by rw [← HB0.out]; simp [Bool.or_assoc]]; exact S7.out)
          go_wp2
          rw [RE.out]
          refine bodyPost_ret (v := ruV ⟨1, 0, 0, d, 7200⟩) (by simp [results, Tryd.results35, go_sem, *]) rfl ⟨rfl, ?_, ?_⟩
          · exact ((((SZ.out.o.setNew (by simp) _).setNew (by simp) _).setNew (by simp) _).setNew (by simp) _).setNew (by simp) _
          · exact ((((SZ.out.rd.set (by have := SZ.out.old; simp only; omega) _).set (by have := SZ.out.old; simp only; omega) _).set (by have := SZ.out.old; simp only; omega) _).set (by have := SZ.out.old; simp only; omega) _).set (by have := SZ.out.old; simp only; omega) _
end Go.Proofs.YtomnjdammfiadaaDoor
