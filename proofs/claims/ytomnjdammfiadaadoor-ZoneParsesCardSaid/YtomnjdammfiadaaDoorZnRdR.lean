/- Contracts of package zone: the reader's rules. -/
import Derived.Test.YtomnjdammfiadaaDoorZnRdN
namespace Go.Proofs.YtomnjdammfiadaaDoor
open Go.ChangeShapes Go.WideShapes Go.ChangeAt Go.RowKit
open Zn
theorem cell_of {x : World} {n j : Nat} {cs : Array Value} {t : TypeId} {v : Value} (h : x.heap[n]? = some (.cells cs t)) (hv : cs[j]? = some v) : x.cell? ⟨n, j, none⟩ = some v := by
  simp [World.cell?, h, hv]
theorem fro_of {x : World} {n : Nat} {cs : Array Value} {t : TypeId} (h : x.heap[n]? = some (.cells cs t)) (j : Nat) : x.frozen? ⟨n, j, none⟩ = false := by
  simp [World.frozen?, h]
theorem block_set {x : World} {n j : Nat} {cs : Array Value} {t : TypeId} (h : x.heap[n]? = some (.cells cs t)) (v : Value) : (x.setCell ⟨n, j, none⟩ v).heap[n]? = some (.cells (cs.setIfInBounds j v) t) := by
  simp [World.setCell, Array.getElem?_modify, h]
theorem Only.setNew {bk : Nat} {w x : World} (h : Only bk w x) {a : Addr} (ha : w.heap.size ≤ a.block) (_ : a.block ≠ bk) (v : Value) : Only bk w (x.setCell a v) :=
  ⟨h.os, h.output, by simpa [World.setCell] using h.size, fun k hk hnk => (Below.heap_setCell _ _ _ _ (by omega)).trans (h.block k hk hnk), (World.frozen?_setCell _ _ _ _).trans h.frozen⟩
theorem Rd.set {bk : Nat} {l : List UInt8} {x : World} (h : Rd bk l x) {a : Addr} (hn : bk ≠ a.block) (v : Value) : Rd bk l (x.setCell a v) := by
  refine ⟨by simpa [World.setCell] using h.lt, ?_, (World.frozen?_setCell _ _ _ _).trans h.fro⟩
  have := h.cell
  unfold World.cell? at this ⊢
  rw [Below.heap_setCell _ _ _ _ hn]; exact this
theorem Only.alloc {bk : Nat} {w x : World} (h : Only bk w x) (hb : bk < w.heap.size) (o : Obj) : Only bk w (x.alloc o) :=
  h.trans (Only.of_kept ((Kept.refl x).alloc o) (Nat.lt_of_lt_of_le hb h.size))
theorem Rd.alloc {bk : Nat} {l : List UInt8} {x : World} (h : Rd bk l x) (o : Obj) : Rd bk l (x.alloc o) := by
  have k := (Kept.refl x).alloc o
  exact ⟨Nat.lt_of_lt_of_le h.lt k.size, (k.cell (a := ⟨bk, 0, none⟩) h.lt).trans h.cell, (k.frozen (a := ⟨bk, 0, none⟩) h.lt).trans h.fro⟩
abbrev ru5 (k m x d a : Int) : Array Value := #[.int .i64 k, .int .i64 m, .int .i64 x, .int .i64 d, .int .i64 a]
/-- within the reading of a rule: the result's block, and the rule's own behind it -/
structure St (bk : Nat) (w : World) (c1 : Array Value) (l : List UInt8) (x : World) : Prop where
  old : bk < w.heap.size
  o : Only bk w x
  lt : w.heap.size + 1 < x.heap.size
  b0 : x.heap[w.heap.size]? = some (.cells (ru5 0 0 0 0 0) 23)
  b1 : x.heap[w.heap.size + 1]? = some (.cells c1 23)
  rd : Rd bk l x
theorem St.step {bk : Nat} {w x x' : World} {c1 : Array Value} {l r : List UInt8} (h : St bk w c1 l x) (o : Only bk x x') (hr : Rd bk r x') : St bk w c1 r x' :=
  ⟨h.old, h.o.trans o, Nat.lt_of_lt_of_le h.lt o.size, (o.block _ (by have := h.lt; omega) (by have := h.old; omega)).trans h.b0, (o.block _ h.lt (by have := h.old; omega)).trans h.b1, hr⟩
theorem St.set {bk : Nat} {w x : World} {c1 : Array Value} {l : List UInt8} (h : St bk w c1 l x) (j : Nat) (v : Value) : St bk w (c1.setIfInBounds j v) l (x.setCell ⟨w.heap.size + 1, j, none⟩ v) := by
  have ho := h.old
  exact ⟨h.old, h.o.setNew (a := ⟨w.heap.size + 1, j, none⟩) (by simp) (by simp only; omega) v, by simpa [World.setCell] using h.lt, (Below.heap_setCell _ _ _ _ (by simp)).trans h.b0, block_set h.b1 v, h.rd.set (by simp only; omega) v⟩
theorem st_start {bk : Nat} {w : World} {l : List UInt8} (h : Rd bk l w) : St bk w (ru5 1 0 0 0 7200) l ((w.alloc (.cells (ru5 0 0 0 0 0) 23)).alloc (.cells (ru5 1 0 0 0 7200) 23)) := by
  have q : ∀ (A B : Obj), ((w.alloc A).alloc B).heap = (w.heap.push A).push B := fun _ _ => rfl
  refine ⟨h.lt, ((Only.refl bk w).alloc h.lt _).alloc h.lt _, by rw [q]; simp, ?_, ?_, (h.alloc _).alloc _⟩
  · rw [q, Array.getElem?_push, if_neg (by simp), Array.getElem?_push, if_pos rfl]
  · rw [q, Array.getElem?_push, if_pos (by simp)]
theorem rulK_J {l : List UInt8} (h : (skp 74 l).1 = true) : rulK l = ((0, 0, 0), (skp 74 l).2) := by
  unfold rulK; rcases hk : skp 74 l with ⟨b, r⟩; rw [hk] at h; simp only at h; subst h; rfl
theorem rulK_M {l : List UInt8} (h : (skp 74 l).1 = false) (h2 : (skp 77 (skp 74 l).2).1 = true) : rulK l = ((2, (num (skp 77 (skp 74 l).2).2).1, (num (skp 46 (num (skp 77 (skp 74 l).2).2).2).2).1), (skp 46 (num (skp 46 (num (skp 77 (skp 74 l).2).2).2).2).2).2) := by
  unfold rulK; rcases hk : skp 74 l with ⟨b, r⟩; rw [hk] at h h2; simp only at h; subst h
  simp only at h2 ⊢
  rcases hk2 : skp 77 r with ⟨b2, r2⟩; rw [hk2] at h2; simp only at h2; subst h2; rfl
theorem rulK_Z {l : List UInt8} (h : (skp 74 l).1 = false) (h2 : (skp 77 (skp 74 l).2).1 = false) : rulK l = ((1, 0, 0), (skp 77 (skp 74 l).2).2) := by
  unfold rulK; rcases hk : skp 74 l with ⟨b, r⟩; rw [hk] at h h2; simp only at h; subst h
  simp only at h2 ⊢
  rcases hk2 : skp 77 r with ⟨b2, r2⟩; rw [hk2] at h2; simp only at h2; subst h2; rfl
theorem rulA_yes {l : List UInt8} (h : (skp 47 l).1 = true) : rulA l = tim (skp 47 l).2 := by
  unfold rulA; rcases hk : skp 47 l with ⟨b, r⟩; rw [hk] at h; simp only at h; subst h; rfl
theorem rulA_no {l : List UInt8} (h : (skp 47 l).1 = false) : rulA l = (7200, (skp 47 l).2) := by
  unfold rulA; rcases hk : skp 47 l with ⟨b, r⟩; rw [hk] at h; simp only at h; subst h; rfl
theorem rul_of {l ld le lf : List UInt8} {k m x d a : Int} (h1 : rulK (skp 44 l).2 = ((k, m, x), ld)) (h2 : num ld = (d, le)) (h3 : rulA le = (a, lf)) : rul l = (⟨k, m, x, d, a⟩, lf) := by
  unfold rul; rw [h1]; simp only; rw [h2]; simp only; rw [h3]
set_option maxRecDepth 100000 in
set_option maxHeartbeats 4000000 in
theorem rule_any (l : List UInt8) (bk : Nat) (w : World) (h : Rd bk l w) (hl : l.length ≤ 1000) :
    Calls Tryd.prog 47 #[.pointer (some ⟨bk, 0, none⟩)] w (StepPost (ruV (rul l).1) (rul l).2 bk w) := by
  have S0 := Lib.hid (st_start h); clear h
  have hla := skp_len 44 l
  have RO := Lib.hid (fun ld le lf k m x d a => @rul_of l ld le lf k m x d a)
  go_enter Tryd.func47, Tryd.ntmps47
  go_wp2_with fail
  generalize (w.alloc (.cells #[.int .i64 0, .int .i64 0, .int .i64 0, .int .i64 0, .int .i64 0] 23)).alloc (.cells #[.int .i64 1, .int .i64 0, .int .i64 0, .int .i64 0, .int .i64 7200] 23) = x0 at *
  refine (skip_any 44 l bk _ S0.out.rd).mono ?_
  rintro e x1 ⟨rfl, o, r⟩
  have S1 := Lib.hid (S0.out.step o r); clear o r S0
  generalize (skp 44 l).1 = b0 at *
  generalize (skp 44 l).2 = la at *
  have hlb := skp_len 74 la
  go_wp2_with fail
  refine (skip_any 74 la bk _ S1.out.rd).mono ?_
  rintro e x2 ⟨rfl, o, r⟩
  have S2 := Lib.hid (S1.out.step o r); clear o r S1
  cases hJ : (skp 74 la).1 with
  | true =>
    have HK := Lib.hid (rulK_J hJ); clear hJ
    generalize (skp 74 la).2 = lb at *
    have S3 := Lib.hid (show St bk w (ru5 0 0 0 0 7200) _ (x2.setCell ⟨w.heap.size + 1, 0, none⟩ (.int .i64 0)) from S2.out.set 0 (.int .i64 0))
    have c0 := cell_of (j := 0) S2.out.b1 rfl
    have c1 := cell_of (j := 1) S2.out.b1 rfl
    have c2 := cell_of (j := 2) S2.out.b1 rfl
    have c3 := cell_of (j := 3) S2.out.b1 rfl
    have c4 := cell_of (j := 4) S2.out.b1 rfl
    have f1 := fro_of S2.out.b1
    go_wp2_with fail
    clear c0 c1 c2 c3 c4 f1
    clear S2
    generalize x2.setCell ⟨w.heap.size + 1, 0, none⟩ (.int .i64 0) = x3 at *
    have hln := num_len lb
    refine (number_any lb bk _ S3.out.rd (by omega)).mono ?_
    rintro e x4 ⟨rfl, o, r⟩
    have S4 := Lib.hid (S3.out.step o r); clear o r S3
    have HN := Lib.hid (show num lb = ((num lb).1, (num lb).2) from rfl)
    generalize (num lb).1 = d at *
    generalize (num lb).2 = le at *
    have hls := skp_len 47 le
    have S5 := Lib.hid (show St bk w (ru5 0 0 0 d 7200) _ (x4.setCell ⟨w.heap.size + 1, 3, none⟩ (.int .i64 d)) from S4.out.set 3 (.int .i64 d))
    have c0 := cell_of (j := 0) S4.out.b1 rfl
    have c1 := cell_of (j := 1) S4.out.b1 rfl
    have c2 := cell_of (j := 2) S4.out.b1 rfl
    have c3 := cell_of (j := 3) S4.out.b1 rfl
    have c4 := cell_of (j := 4) S4.out.b1 rfl
    have f1 := fro_of S4.out.b1
    go_wp2_with fail
    clear c0 c1 c2 c3 c4 f1
    clear S4
    generalize x4.setCell ⟨w.heap.size + 1, 3, none⟩ (.int .i64 d) = x5 at *
    refine (skip_any 47 le bk _ S5.out.rd).mono ?_
    rintro e x6 ⟨rfl, o, r⟩
    have S6 := Lib.hid (S5.out.step o r); clear o r S5
    cases hA : (skp 47 le).1 with
    | true =>
      have HA := Lib.hid (rulA_yes hA); clear hA
      generalize (skp 47 le).2 = lf at *
      go_wp2_with fail
      refine (time_any lf bk _ S6.out.rd (by omega)).mono ?_
      rintro e x7 ⟨rfl, o, r⟩
      have S7 := Lib.hid (S6.out.step o r); clear o r S6
      have HA2 := Lib.hid (show rulA le = ((tim lf).1, (tim lf).2) from HA.out); clear HA
      generalize (tim lf).1 = a at *
      generalize (tim lf).2 = lg at *
      have RE := Lib.hid (RO.out _ _ _ _ _ _ _ _ HK.out HN.out HA2.out); clear RO HK HN HA2
      have c0 := cell_of (j := 0) S7.out.b1 rfl
      have c1 := cell_of (j := 1) S7.out.b1 rfl
      have c2 := cell_of (j := 2) S7.out.b1 rfl
      have c3 := cell_of (j := 3) S7.out.b1 rfl
      have c4 := cell_of (j := 4) S7.out.b1 rfl
      have f1 := fro_of S7.out.b1
      have z0 := cell_of (j := 0) S7.out.b0 rfl
      have z1 := cell_of (j := 1) S7.out.b0 rfl
      have z2 := cell_of (j := 2) S7.out.b0 rfl
      have z3 := cell_of (j := 3) S7.out.b0 rfl
      have z4 := cell_of (j := 4) S7.out.b0 rfl
      have f0 := fro_of S7.out.b0
      have SZ := Lib.hid (show St bk w (ru5 0 0 0 d a) _ (x7.setCell ⟨w.heap.size + 1, 4, none⟩ (.int .i64 a)) from S7.out.set 4 (.int .i64 a))
      go_wp2
      rw [RE.out]
      refine bodyPost_ret (v := ruV ⟨0, 0, 0, d, a⟩) (by simp [results, Tryd.results47, go_sem, *]) rfl ⟨rfl, ?_, ?_⟩
      · exact ((((SZ.out.o.setNew (by simp) (by have := SZ.out.old; simp only; omega) _).setNew (by simp) (by have := SZ.out.old; simp only; omega) _).setNew (by simp) (by have := SZ.out.old; simp only; omega) _).setNew (by simp) (by have := SZ.out.old; simp only; omega) _).setNew (by simp) (by have := SZ.out.old; simp only; omega) _
      · exact ((((SZ.out.rd.set (by have := SZ.out.old; simp only; omega) _).set (by have := SZ.out.old; simp only; omega) _).set (by have := SZ.out.old; simp only; omega) _).set (by have := SZ.out.old; simp only; omega) _).set (by have := SZ.out.old; simp only; omega) _
    | false =>
      have HA2 := Lib.hid (rulA_no hA); clear hA
      generalize (skp 47 le).2 = lg at *
      have RE := Lib.hid (RO.out _ _ _ _ _ _ _ _ HK.out HN.out HA2.out); clear RO HK HN HA2
      have c0 := cell_of (j := 0) S6.out.b1 rfl
      have c1 := cell_of (j := 1) S6.out.b1 rfl
      have c2 := cell_of (j := 2) S6.out.b1 rfl
      have c3 := cell_of (j := 3) S6.out.b1 rfl
      have c4 := cell_of (j := 4) S6.out.b1 rfl
      have f1 := fro_of S6.out.b1
      have z0 := cell_of (j := 0) S6.out.b0 rfl
      have z1 := cell_of (j := 1) S6.out.b0 rfl
      have z2 := cell_of (j := 2) S6.out.b0 rfl
      have z3 := cell_of (j := 3) S6.out.b0 rfl
      have z4 := cell_of (j := 4) S6.out.b0 rfl
      have f0 := fro_of S6.out.b0
      go_wp2
      rw [RE.out]
      refine bodyPost_ret (v := ruV ⟨0, 0, 0, d, 7200⟩) (by simp [results, Tryd.results47, go_sem, *]) rfl ⟨rfl, ?_, ?_⟩
      · exact ((((S6.out.o.setNew (by simp) (by have := S6.out.old; simp only; omega) _).setNew (by simp) (by have := S6.out.old; simp only; omega) _).setNew (by simp) (by have := S6.out.old; simp only; omega) _).setNew (by simp) (by have := S6.out.old; simp only; omega) _).setNew (by simp) (by have := S6.out.old; simp only; omega) _
      · exact ((((S6.out.rd.set (by have := S6.out.old; simp only; omega) _).set (by have := S6.out.old; simp only; omega) _).set (by have := S6.out.old; simp only; omega) _).set (by have := S6.out.old; simp only; omega) _).set (by have := S6.out.old; simp only; omega) _
  | false =>
    have HJ := Lib.hid (@rulK_M la hJ)
    have HZ := Lib.hid (@rulK_Z la hJ); clear hJ
    generalize (skp 74 la).2 = lb at *
    have hlm := skp_len 77 lb
    go_wp2_with fail
    refine (skip_any 77 lb bk _ S2.out.rd).mono ?_
    rintro e x3 ⟨rfl, o, r⟩
    have S3 := Lib.hid (S2.out.step o r); clear o r S2
    cases hM : (skp 77 lb).1 with
    | true =>
      have HK0 := Lib.hid (HJ.out hM); clear hM HJ HZ
      generalize (skp 77 lb).2 = lm at *
      have hl1 := num_len lm
      have S4 := Lib.hid (show St bk w (ru5 2 0 0 0 7200) _ (x3.setCell ⟨w.heap.size + 1, 0, none⟩ (.int .i64 2)) from S3.out.set 0 (.int .i64 2))
      have c0 := cell_of (j := 0) S3.out.b1 rfl
      have c1 := cell_of (j := 1) S3.out.b1 rfl
      have c2 := cell_of (j := 2) S3.out.b1 rfl
      have c3 := cell_of (j := 3) S3.out.b1 rfl
      have c4 := cell_of (j := 4) S3.out.b1 rfl
      have f1 := fro_of S3.out.b1
      go_wp2_with fail
      clear c0 c1 c2 c3 c4 f1
      clear S3
      generalize x3.setCell ⟨w.heap.size + 1, 0, none⟩ (.int .i64 2) = x4 at *
      refine (number_any lm bk _ S4.out.rd (by omega)).mono ?_
      rintro e x5 ⟨rfl, o, r⟩
      have S5 := Lib.hid (S4.out.step o r); clear o r S4
      generalize (num lm).1 = m at *
      generalize (num lm).2 = ln at *
      have hl2 := skp_len 46 ln
      have S6 := Lib.hid (show St bk w (ru5 2 m 0 0 7200) _ (x5.setCell ⟨w.heap.size + 1, 1, none⟩ (.int .i64 m)) from S5.out.set 1 (.int .i64 m))
      have c0 := cell_of (j := 0) S5.out.b1 rfl
      have c1 := cell_of (j := 1) S5.out.b1 rfl
      have c2 := cell_of (j := 2) S5.out.b1 rfl
      have c3 := cell_of (j := 3) S5.out.b1 rfl
      have c4 := cell_of (j := 4) S5.out.b1 rfl
      have f1 := fro_of S5.out.b1
      go_wp2_with fail
      clear c0 c1 c2 c3 c4 f1
      clear S5
      generalize x5.setCell ⟨w.heap.size + 1, 1, none⟩ (.int .i64 m) = x6 at *
      refine (skip_any 46 ln bk _ S6.out.rd).mono ?_
      rintro e x7 ⟨rfl, o, r⟩
      have S7 := Lib.hid (S6.out.step o r); clear o r S6
      generalize (skp 46 ln).1 = b1 at *
      generalize (skp 46 ln).2 = lo at *
      have hl3 := num_len lo
      go_wp2_with fail
      refine (number_any lo bk _ S7.out.rd (by omega)).mono ?_
      rintro e x8 ⟨rfl, o, r⟩
      have S8 := Lib.hid (S7.out.step o r); clear o r S7
      generalize (num lo).1 = x at *
      generalize (num lo).2 = lp at *
      have hl4 := skp_len 46 lp
      have S9 := Lib.hid (show St bk w (ru5 2 m x 0 7200) _ (x8.setCell ⟨w.heap.size + 1, 2, none⟩ (.int .i64 x)) from S8.out.set 2 (.int .i64 x))
      have c0 := cell_of (j := 0) S8.out.b1 rfl
      have c1 := cell_of (j := 1) S8.out.b1 rfl
      have c2 := cell_of (j := 2) S8.out.b1 rfl
      have c3 := cell_of (j := 3) S8.out.b1 rfl
      have c4 := cell_of (j := 4) S8.out.b1 rfl
      have f1 := fro_of S8.out.b1
      go_wp2_with fail
      clear c0 c1 c2 c3 c4 f1
      clear S8
      generalize x8.setCell ⟨w.heap.size + 1, 2, none⟩ (.int .i64 x) = x9 at *
      refine (skip_any 46 lp bk _ S9.out.rd).mono ?_
      rintro e x10 ⟨rfl, o, r⟩
      have S10 := Lib.hid (S9.out.step o r); clear o r S9
      generalize (skp 46 lp).1 = b2 at *
      generalize (skp 46 lp).2 = lq at *
      have HK := Lib.hid HK0.out; clear HK0
      go_wp2_with fail
      have hln := num_len lq
      refine (number_any lq bk _ S10.out.rd (by omega)).mono ?_
      rintro e x11 ⟨rfl, o, r⟩
      have S11 := Lib.hid (S10.out.step o r); clear o r S10
      have HN := Lib.hid (show num lq = ((num lq).1, (num lq).2) from rfl)
      generalize (num lq).1 = d at *
      generalize (num lq).2 = le at *
      have hls := skp_len 47 le
      have S12 := Lib.hid (show St bk w (ru5 2 m x d 7200) _ (x11.setCell ⟨w.heap.size + 1, 3, none⟩ (.int .i64 d)) from S11.out.set 3 (.int .i64 d))
      have c0 := cell_of (j := 0) S11.out.b1 rfl
      have c1 := cell_of (j := 1) S11.out.b1 rfl
      have c2 := cell_of (j := 2) S11.out.b1 rfl
      have c3 := cell_of (j := 3) S11.out.b1 rfl
      have c4 := cell_of (j := 4) S11.out.b1 rfl
      have f1 := fro_of S11.out.b1
      go_wp2_with fail
      clear c0 c1 c2 c3 c4 f1
      clear S11
      generalize x11.setCell ⟨w.heap.size + 1, 3, none⟩ (.int .i64 d) = x12 at *
      refine (skip_any 47 le bk _ S12.out.rd).mono ?_
      rintro e x13 ⟨rfl, o, r⟩
      have S13 := Lib.hid (S12.out.step o r); clear o r S12
      cases hA : (skp 47 le).1 with
      | true =>
        have HA := Lib.hid (rulA_yes hA); clear hA
        generalize (skp 47 le).2 = lf at *
        go_wp2_with fail
        refine (time_any lf bk _ S13.out.rd (by omega)).mono ?_
        rintro e x14 ⟨rfl, o, r⟩
        have S14 := Lib.hid (S13.out.step o r); clear o r S13
        have HA2 := Lib.hid (show rulA le = ((tim lf).1, (tim lf).2) from HA.out); clear HA
        generalize (tim lf).1 = a at *
        generalize (tim lf).2 = lg at *
        have RE := Lib.hid (RO.out _ _ _ _ _ _ _ _ HK.out HN.out HA2.out); clear RO HK HN HA2
        have c0 := cell_of (j := 0) S14.out.b1 rfl
        have c1 := cell_of (j := 1) S14.out.b1 rfl
        have c2 := cell_of (j := 2) S14.out.b1 rfl
        have c3 := cell_of (j := 3) S14.out.b1 rfl
        have c4 := cell_of (j := 4) S14.out.b1 rfl
        have f1 := fro_of S14.out.b1
        have z0 := cell_of (j := 0) S14.out.b0 rfl
        have z1 := cell_of (j := 1) S14.out.b0 rfl
        have z2 := cell_of (j := 2) S14.out.b0 rfl
        have z3 := cell_of (j := 3) S14.out.b0 rfl
        have z4 := cell_of (j := 4) S14.out.b0 rfl
        have f0 := fro_of S14.out.b0
        have SZ := Lib.hid (show St bk w (ru5 2 m x d a) _ (x14.setCell ⟨w.heap.size + 1, 4, none⟩ (.int .i64 a)) from S14.out.set 4 (.int .i64 a))
        go_wp2
        rw [RE.out]
        refine bodyPost_ret (v := ruV ⟨2, m, x, d, a⟩) (by simp [results, Tryd.results47, go_sem, *]) rfl ⟨rfl, ?_, ?_⟩
        · exact ((((SZ.out.o.setNew (by simp) (by have := SZ.out.old; simp only; omega) _).setNew (by simp) (by have := SZ.out.old; simp only; omega) _).setNew (by simp) (by have := SZ.out.old; simp only; omega) _).setNew (by simp) (by have := SZ.out.old; simp only; omega) _).setNew (by simp) (by have := SZ.out.old; simp only; omega) _
        · exact ((((SZ.out.rd.set (by have := SZ.out.old; simp only; omega) _).set (by have := SZ.out.old; simp only; omega) _).set (by have := SZ.out.old; simp only; omega) _).set (by have := SZ.out.old; simp only; omega) _).set (by have := SZ.out.old; simp only; omega) _
      | false =>
        have HA2 := Lib.hid (rulA_no hA); clear hA
        generalize (skp 47 le).2 = lg at *
        have RE := Lib.hid (RO.out _ _ _ _ _ _ _ _ HK.out HN.out HA2.out); clear RO HK HN HA2
        have c0 := cell_of (j := 0) S13.out.b1 rfl
        have c1 := cell_of (j := 1) S13.out.b1 rfl
        have c2 := cell_of (j := 2) S13.out.b1 rfl
        have c3 := cell_of (j := 3) S13.out.b1 rfl
        have c4 := cell_of (j := 4) S13.out.b1 rfl
        have f1 := fro_of S13.out.b1
        have z0 := cell_of (j := 0) S13.out.b0 rfl
        have z1 := cell_of (j := 1) S13.out.b0 rfl
        have z2 := cell_of (j := 2) S13.out.b0 rfl
        have z3 := cell_of (j := 3) S13.out.b0 rfl
        have z4 := cell_of (j := 4) S13.out.b0 rfl
        have f0 := fro_of S13.out.b0
        go_wp2
        rw [RE.out]
        refine bodyPost_ret (v := ruV ⟨2, m, x, d, 7200⟩) (by simp [results, Tryd.results47, go_sem, *]) rfl ⟨rfl, ?_, ?_⟩
        · exact ((((S13.out.o.setNew (by simp) (by have := S13.out.old; simp only; omega) _).setNew (by simp) (by have := S13.out.old; simp only; omega) _).setNew (by simp) (by have := S13.out.old; simp only; omega) _).setNew (by simp) (by have := S13.out.old; simp only; omega) _).setNew (by simp) (by have := S13.out.old; simp only; omega) _
        · exact ((((S13.out.rd.set (by have := S13.out.old; simp only; omega) _).set (by have := S13.out.old; simp only; omega) _).set (by have := S13.out.old; simp only; omega) _).set (by have := S13.out.old; simp only; omega) _).set (by have := S13.out.old; simp only; omega) _
    | false =>
      have HK := Lib.hid (HZ.out hM); clear hM HJ HZ
      generalize (skp 77 lb).2 = lm at *
      go_wp2_with fail
      have hln := num_len lm
      refine (number_any lm bk _ S3.out.rd (by omega)).mono ?_
      rintro e x4 ⟨rfl, o, r⟩
      have S4 := Lib.hid (S3.out.step o r); clear o r S3
      have HN := Lib.hid (show num lm = ((num lm).1, (num lm).2) from rfl)
      generalize (num lm).1 = d at *
      generalize (num lm).2 = le at *
      have hls := skp_len 47 le
      have S5 := Lib.hid (show St bk w (ru5 1 0 0 d 7200) _ (x4.setCell ⟨w.heap.size + 1, 3, none⟩ (.int .i64 d)) from S4.out.set 3 (.int .i64 d))
      have c0 := cell_of (j := 0) S4.out.b1 rfl
      have c1 := cell_of (j := 1) S4.out.b1 rfl
      have c2 := cell_of (j := 2) S4.out.b1 rfl
      have c3 := cell_of (j := 3) S4.out.b1 rfl
      have c4 := cell_of (j := 4) S4.out.b1 rfl
      have f1 := fro_of S4.out.b1
      go_wp2_with fail
      clear c0 c1 c2 c3 c4 f1
      clear S4
      generalize x4.setCell ⟨w.heap.size + 1, 3, none⟩ (.int .i64 d) = x5 at *
      refine (skip_any 47 le bk _ S5.out.rd).mono ?_
      rintro e x6 ⟨rfl, o, r⟩
      have S6 := Lib.hid (S5.out.step o r); clear o r S5
      cases hA : (skp 47 le).1 with
      | true =>
        have HA := Lib.hid (rulA_yes hA); clear hA
        generalize (skp 47 le).2 = lf at *
        go_wp2_with fail
        refine (time_any lf bk _ S6.out.rd (by omega)).mono ?_
        rintro e x7 ⟨rfl, o, r⟩
        have S7 := Lib.hid (S6.out.step o r); clear o r S6
        have HA2 := Lib.hid (show rulA le = ((tim lf).1, (tim lf).2) from HA.out); clear HA
        generalize (tim lf).1 = a at *
        generalize (tim lf).2 = lg at *
        have RE := Lib.hid (RO.out _ _ _ _ _ _ _ _ HK.out HN.out HA2.out); clear RO HK HN HA2
        have c0 := cell_of (j := 0) S7.out.b1 rfl
        have c1 := cell_of (j := 1) S7.out.b1 rfl
        have c2 := cell_of (j := 2) S7.out.b1 rfl
        have c3 := cell_of (j := 3) S7.out.b1 rfl
        have c4 := cell_of (j := 4) S7.out.b1 rfl
        have f1 := fro_of S7.out.b1
        have z0 := cell_of (j := 0) S7.out.b0 rfl
        have z1 := cell_of (j := 1) S7.out.b0 rfl
        have z2 := cell_of (j := 2) S7.out.b0 rfl
        have z3 := cell_of (j := 3) S7.out.b0 rfl
        have z4 := cell_of (j := 4) S7.out.b0 rfl
        have f0 := fro_of S7.out.b0
        have SZ := Lib.hid (show St bk w (ru5 1 0 0 d a) _ (x7.setCell ⟨w.heap.size + 1, 4, none⟩ (.int .i64 a)) from S7.out.set 4 (.int .i64 a))
        go_wp2
        rw [RE.out]
        refine bodyPost_ret (v := ruV ⟨1, 0, 0, d, a⟩) (by simp [results, Tryd.results47, go_sem, *]) rfl ⟨rfl, ?_, ?_⟩
        · exact ((((SZ.out.o.setNew (by simp) (by have := SZ.out.old; simp only; omega) _).setNew (by simp) (by have := SZ.out.old; simp only; omega) _).setNew (by simp) (by have := SZ.out.old; simp only; omega) _).setNew (by simp) (by have := SZ.out.old; simp only; omega) _).setNew (by simp) (by have := SZ.out.old; simp only; omega) _
        · exact ((((SZ.out.rd.set (by have := SZ.out.old; simp only; omega) _).set (by have := SZ.out.old; simp only; omega) _).set (by have := SZ.out.old; simp only; omega) _).set (by have := SZ.out.old; simp only; omega) _).set (by have := SZ.out.old; simp only; omega) _
      | false =>
        have HA2 := Lib.hid (rulA_no hA); clear hA
        generalize (skp 47 le).2 = lg at *
        have RE := Lib.hid (RO.out _ _ _ _ _ _ _ _ HK.out HN.out HA2.out); clear RO HK HN HA2
        have c0 := cell_of (j := 0) S6.out.b1 rfl
        have c1 := cell_of (j := 1) S6.out.b1 rfl
        have c2 := cell_of (j := 2) S6.out.b1 rfl
        have c3 := cell_of (j := 3) S6.out.b1 rfl
        have c4 := cell_of (j := 4) S6.out.b1 rfl
        have f1 := fro_of S6.out.b1
        have z0 := cell_of (j := 0) S6.out.b0 rfl
        have z1 := cell_of (j := 1) S6.out.b0 rfl
        have z2 := cell_of (j := 2) S6.out.b0 rfl
        have z3 := cell_of (j := 3) S6.out.b0 rfl
        have z4 := cell_of (j := 4) S6.out.b0 rfl
        have f0 := fro_of S6.out.b0
        go_wp2
        rw [RE.out]
        refine bodyPost_ret (v := ruV ⟨1, 0, 0, d, 7200⟩) (by simp [results, Tryd.results47, go_sem, *]) rfl ⟨rfl, ?_, ?_⟩
        · exact ((((S6.out.o.setNew (by simp) (by have := S6.out.old; simp only; omega) _).setNew (by simp) (by have := S6.out.old; simp only; omega) _).setNew (by simp) (by have := S6.out.old; simp only; omega) _).setNew (by simp) (by have := S6.out.old; simp only; omega) _).setNew (by simp) (by have := S6.out.old; simp only; omega) _
        · exact ((((S6.out.rd.set (by have := S6.out.old; simp only; omega) _).set (by have := S6.out.old; simp only; omega) _).set (by have := S6.out.old; simp only; omega) _).set (by have := S6.out.old; simp only; omega) _).set (by have := S6.out.old; simp only; omega) _
end Go.Proofs.YtomnjdammfiadaaDoor
