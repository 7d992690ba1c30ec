/- Contracts of the document's answer for zones: a text is parsed. -/
import Derived.Test.YtomnjdammfiadaaDoorZnRNam
import Derived.Test.YtomnjdammfiadaaDoorZnRRul
import Derived.Test.YtomnjdammfiadaaDoorZnRefW
namespace Go.Proofs.YtomnjdammfiadaaDoor
open Go.ChangeShapes Go.WideShapes Go.ChangeAt Go.RowKit
open Zn
theorem Kept.onl {n : Nat} {w x x' : World} (h : Kept w x) (o : Onl n x x') (hn : w.heap.size ≤ n) : Kept w x' :=
  ⟨o.os.trans h.os, o.output.trans h.output, Nat.le_trans h.size o.size, fun k hk => (o.block k (Nat.lt_of_lt_of_le hk h.size) (by omega)).trans (h.block k hk)⟩
/-- the zone that a text is by the document, or none -/
def prsR (l : List UInt8) : Option Zo := if (redR l).2.2 = false ∧ (redR l).2.1 = [] ∧ mayZ (redR l).1 = true ∧ wt (redR l).1 = l then some (redR l).1 else none
theorem prsR_eq (l : List UInt8) : prsR l = prs l := by
  cases h : prs l with
  | some z =>
    obtain ⟨h1, h2⟩ := prs_some h
    have e := redR_wt h1
    rw [h2] at e
    unfold prsR
    rw [e]
    exact if_pos ⟨rfl, rfl, h1, h2⟩
  | none =>
    unfold prsR
    split
    · rename_i hc
      obtain ⟨_, _, h1, h2⟩ := hc
      have e := prs_wt h1
      rw [h2, h] at e
      cases e
    · rfl
theorem prsR_yes {l : List UInt8} {z : Zo} (h : redR l = (z, [], false)) (h1 : mayZ z = true) (h2 : wt z = l) : prsR l = some z := by
  unfold prsR; rw [h]; exact if_pos ⟨rfl, rfl, h1, h2⟩
theorem prsR_bad {l r : List UInt8} {z : Zo} (h : redR l = (z, r, true)) : prsR l = none := by
  unfold prsR; rw [h]; exact if_neg (fun k => by cases k.1)
theorem prsR_more {l r : List UInt8} {c : UInt8} {z : Zo} {b : Bool} (h : redR l = (z, c :: r, b)) : prsR l = none := by
  unfold prsR; rw [h]; exact if_neg (fun k => by cases k.2.1)
theorem prsR_not {l r : List UInt8} {z : Zo} {b : Bool} (h : redR l = (z, r, b)) (h1 : mayZ z = false) : prsR l = none := by
  unfold prsR; rw [h]; exact if_neg (fun k => by have := k.2.2.1; simp only at this; rw [h1] at this; cases this)
theorem prsR_ne {l r : List UInt8} {z : Zo} {b : Bool} (h : redR l = (z, r, b)) (h1 : ¬ wt z = l) : prsR l = none := by
  unfold prsR; rw [h]; exact if_neg (fun k => h1 k.2.2.2)
theorem timRs_bd (n : Int) (l : List UInt8) (b : Bool) : n ≤ (timRs n l b).1 ∧ (timRs n l b).1 ≤ n + 1000000 := by
  unfold timRs
  split
  · have := numR_bd (by assumption); simp only; omega
  · simp only; omega
theorem timRm_bd (n : Int) (l : List UInt8) (b : Bool) : n ≤ (timRm n l b).1 ∧ (timRm n l b).1 ≤ n + 61000000 := by
  unfold timRm
  split
  · rename_i r _
    have h1 := numR_bd r
    have h2 := timRs_bd (n + 60 * (numR r).1) (numR r).2.1 (b || (numR r).2.2)
    omega
  · simp only; omega
theorem timRu_bd (l : List UInt8) : 0 ≤ (timRu l).1 ∧ (timRu l).1 ≤ 4000000000 := by
  unfold timRu
  have h1 := numR_bd l
  have h2 := timRm_bd (3600 * (numR l).1) (numR l).2.1 (numR l).2.2
  omega
theorem timR_bd (l : List UInt8) : -4000000000 ≤ (timR l).1 ∧ (timR l).1 ≤ 4000000000 := by
  rw [timR_eq]
  have h := timRu_bd (skp 45 l).2
  split
  · simp only; omega
  · omega
theorem tw_len (p : UInt8 → Bool) (l : List UInt8) : (l.takeWhile p).length ≤ l.length := (List.takeWhile_sublist p).length_le
theorem namR_len (l : List UInt8) : (namR l).1.length ≤ l.length := by
  have h := skp_len 60 l
  unfold namR
  split
  · rename_i r hr
    rw [hr] at h
    exact Nat.le_trans (tw_len _ _) h
  · rename_i r hr
    rw [hr] at h
    exact Nat.le_trans (tw_len _ _) h
theorem redR_short {l : List UInt8} (h : ¬ ((timR (namR l).2.1).2.1 ≠ [] ∧ ((namR l).2.2 || (timR (namR l).2.1).2.2) = false)) : redR l = (⟨(namR l).1, -(timR (namR l).2.1).1, false, [], 0, ru0, ru0⟩, (timR (namR l).2.1).2.1, (namR l).2.2 || (timR (namR l).2.1).2.2) := by
  unfold redR; simp only; rw [if_neg h]
theorem redR_long {l : List UInt8} (h : (timR (namR l).2.1).2.1 ≠ [] ∧ ((namR l).2.2 || (timR (namR l).2.1).2.2) = false) {a : Int × List UInt8 × Bool} (ha : redRa (-(timR (namR l).2.1).1) (namR (timR (namR l).2.1).2.1).2.1 = a) :
    redR l = (⟨(namR l).1, -(timR (namR l).2.1).1, true, (namR (timR (namR l).2.1).2.1).1, a.1, (rulR a.2.1).1, (rulR (rulR a.2.1).2.1).1⟩, (rulR (rulR a.2.1).2.1).2.1, ((namR l).2.2 || (timR (namR l).2.1).2.2) || (namR (timR (namR l).2.1).2.1).2.2 || a.2.2 || (rulR a.2.1).2.2 || (rulR (rulR a.2.1).2.1).2.2) := by
  subst ha; unfold redR; simp only; rw [if_pos h]
theorem see_44 (l : List UInt8) : (l.head? = some 44 ↔ seeB l = 44) := by
  cases l with
  | nil => simp [seeB]
  | cons c r =>
    simp only [seeB, List.head?_cons, Option.some.injEq]
    exact ⟨fun h => by rw [h]; rfl, fun h => UInt8.toNat_inj.1 h⟩
/-- within the parsing of a zone: the result's block, the reader's behind it, the zone's own at m -/
structure SzR (m : Nat) (S : List UInt8) (w : World) (z : Array Value) (l : List UInt8) (bad : Bool) (x : World) : Prop where
  k : Kept w x
  lo : w.heap.size + 1 < m
  lt : m < x.heap.size
  b0 : x.heap[w.heap.size]? = some (.cells (zo15 [] 0 false [] 0 0 0 0 0 0 0 0 0 0 0) 25)
  b1 : x.heap[m]? = some (.cells z 25)
  rd : Rr (w.heap.size + 1) S l bad x
theorem SzR.step {m : Nat} {S : List UInt8} {w x x' : World} {z : Array Value} {l r : List UInt8} {bad bad' : Bool} (h : SzR m S w z l bad x) (o : Onl (w.heap.size + 1) x x') (hr : Rr (w.heap.size + 1) S r bad' x') : SzR m S w z r bad' x' :=
  have lo := h.lo
  have lt := h.lt
  ⟨h.k.onl o (by omega), h.lo, Nat.lt_of_lt_of_le h.lt o.size, (o.block _ (by omega) (by omega)).trans h.b0, (o.block _ h.lt (by omega)).trans h.b1, hr⟩
theorem SzR.set {m : Nat} {S : List UInt8} {w x : World} {z : Array Value} {l : List UInt8} {bad : Bool} (h : SzR m S w z l bad x) (j : Nat) (v : Value) : SzR m S w (z.setIfInBounds j v) l bad (x.setCell ⟨m, j, none⟩ v) := by
  have lo := h.lo
  exact ⟨h.k.setCell (a := ⟨m, j, none⟩) (by simp only; omega) v, h.lo, by simpa [World.setCell] using h.lt, (Below.heap_setCell _ _ _ _ (by simp only; omega)).trans h.b0, block_set h.b1 v, h.rd.set (by simp only; omega) v⟩
theorem SzR.drewN {m : Nat} {S : List UInt8} {w x : World} {z : Array Value} {l : List UInt8} {bad : Bool} (h : SzR m S w z l bad x) (n : Nat) : SzR m S w z l bad (x.drewN n) :=
  ⟨h.k.drewN n, h.lo, h.lt, h.b0, h.b1, h.rd.drewN n⟩
theorem SzR.kept {m : Nat} {S : List UInt8} {w x x' : World} {z : Array Value} {l : List UInt8} {bad : Bool} (h : SzR m S w z l bad x) (k : Kept x x') : SzR m S w z l bad x' :=
  have lo := h.lo
  have lt := h.lt
  ⟨h.k.trans k, h.lo, Nat.lt_of_lt_of_le h.lt k.size, (k.block _ (by omega)).trans h.b0, (k.block _ h.lt).trans h.b1, ⟨(k.block _ h.rd.lt).trans h.rd.blk, h.rd.le, h.rd.suf, h.rd.sl⟩⟩
theorem szR_rd (w : World) (A : Obj) (l : List UInt8) (hl : l.length ≤ 1000) : Rr (w.heap.size + 1) l l false ((w.alloc A).alloc (.cells #[.string ⟨l.toArray⟩, .int .i64 0, .bool false] 47)) := by
  have q : ∀ B : Obj, ((w.alloc A).alloc B).heap[w.heap.size + 1]? = some B := by
    intro B
    show ((w.heap.push A).push _)[w.heap.size + 1]? = _
    rw [Array.getElem?_push, if_pos (by simp)]
  exact ⟨by rw [q]; simp, Nat.le_refl _, by simp, hl⟩
theorem szR_start {w x1 : World} {A : Obj} {S r : List UInt8} {B : Obj} {bad : Bool} (hA : A = .cells (zo15 [] 0 false [] 0 0 0 0 0 0 0 0 0 0 0) 25) (o : Onl (w.heap.size + 1) ((w.alloc A).alloc B) x1) (hr : Rr (w.heap.size + 1) S r bad x1) (z : Array Value) :
    SzR x1.heap.size S w z r bad (x1.alloc (.cells z 25)) := by
  have hs := o.size
  have hz : ((w.alloc A).alloc B).heap.size = w.heap.size + 2 := by show ((w.heap.push A).push _).size = _; simp
  have k0 : Kept w ((w.alloc A).alloc B) := ((Kept.refl w).alloc _).alloc _
  have k1 := k0.onl o (by omega)
  refine ⟨k1.alloc _, by omega, by show _ < (x1.heap.push _).size; simp, ?_, ?_, hr.alloc _⟩
  · rw [((Kept.refl x1).alloc _).block _ (by omega), o.block _ (by omega) (by omega), x0_b0, hA]
  · show (x1.heap.push _)[x1.heap.size]? = _
    simp
theorem parseR_results (n : Nat) (z : Zo) (e : Int) (tmps : Array Value) (x : World) (old : Array Value) (h2 : tmps.getD 2 undef = .pointer (some ⟨n, 0, none⟩)) (h3 : tmps.getD 3 undef = .int .i64 e) (hb : x.heap[n]? = some (.cells old 25)) :
    (results Tryd.f15 tmps).run Tryd.prog (x.setRow n (zo15 z.std z.off z.has z.dst z.ahead z.fr.k z.fr.m z.fr.w z.fr.d z.fr.a z.to.k z.to.m z.to.w z.to.d z.to.a)) = .ok (.tuple #[zoV z, .int .i64 e]) (x.setRow n (zo15 z.std z.off z.has z.dst z.ahead z.fr.k z.fr.m z.fr.w z.fr.d z.fr.a z.to.k z.to.m z.to.w z.to.d z.to.a)) := by
  rw [results_cell_tmp Tryd.results15, h2, h3]
  have hl := run_loadVar_row (P := Tryd.prog) (x.setRow n (zo15 z.std z.off z.has z.dst z.ahead z.fr.k z.fr.m z.fr.w z.fr.d z.fr.a z.to.k z.to.m z.to.w z.to.d z.to.a)) n 25 25 _ (0, 0) _ (setRow_heap _ _ _ _ _ _ hb) Tryd.underlying25 rfl (by kernel_rfl)
  simp only [asAddr, Sem.run_pure, Result.andThen_ok, hl]
set_option maxRecDepth 100000 in
set_option maxHeartbeats 2000000 in
theorem parseR_over (l : List UInt8) (w : World) (h : 100 < l.length) :
    Calls Tryd.prog 15 #[.string ⟨l.toArray⟩] w fun e w' => e = .returned (.tuple #[zoV zo0, .int .i64 4]) ∧ Kept w w' := by
  have hb := Lib.hid (new_block w (.cells (zo15 [] 0 false [] 0 0 0 0 0 0 0 0 0 0 0) 25))
  have kb := Lib.hid ((Kept.refl w).alloc (.cells (zo15 [] 0 false [] 0 0 0 0 0 0 0 0 0 0 0) 25))
  go_enter Tryd.func15, Tryd.ntmps15
  go_upto_region 2 with (fail)
  generalize w.alloc (.cells (zo15 [] 0 false [] 0 0 0 0 0 0 0 0 0 0 0) 25) = x at *
  go_wp2_with (refine wpList_store_row rfl 25 _ _ rfl w.heap.size _ rfl rfl 25 _ hb.out (by kernel_rfl) rfl (zo15_one [] _ _ [] _ _ _ _ _ _ _ _ _ _ _) ?_)
  exact bodyPost_ret (v := .tuple #[zoV zo0, .int .i64 4]) (parseR_results w.heap.size zo0 4 _ x _ rfl rfl hb.out) rfl ⟨rfl, kb.out.setRow (Nat.le_refl _) _⟩
theorem post_none {o : Option Zo} {w w' : World} (h : o = none) (k : Kept w w') : ParsePost o w (.returned (.tuple #[zoV zo0, .int .i64 2])) w' := by subst h; exact ⟨rfl, k⟩
theorem post_some {o : Option Zo} {z : Zo} {w w' : World} (h : o = some z) (k : Kept w w') : ParsePost o w (.returned (.tuple #[zoV z, .int .i64 0])) w' := by subst h; exact ⟨rfl, k⟩
set_option maxRecDepth 100000 in
set_option maxHeartbeats 4000000 in
theorem parseR_any (l : List UInt8) (w : World) (hl : l.length ≤ 100) :
    Calls Tryd.prog 15 #[.string ⟨l.toArray⟩] w (ParsePost (prsR l) w) := by
  have R0 := Lib.hid (szR_rd w (.cells (zo15 [] 0 false [] 0 0 0 0 0 0 0 0 0 0 0) 25) l (by omega))
  have RS := Lib.hid (@redR_short l)
  have RL := Lib.hid (fun a h ha => @redR_long l h a ha)
  have hns := namR_len l
  go_enter Tryd.func15, Tryd.ntmps15
  go_wp2_with fail
  refine (nameR_any l l false _ _ R0.out).mono ?_
  rintro e x1 ⟨rfl, o, r⟩
  have S1 := Lib.hid (szR_start (A := .cells (zo15 [] 0 false [] 0 0 0 0 0 0 0 0 0 0 0) 25) rfl o r (zo15 (namR l).1 0 false [] 0 0 0 0 0 0 0 0 0 0 0)); clear o r R0
  rw [Bool.false_or] at S1
  generalize (namR l).1 = s at *
  generalize (namR l).2.1 = la at *
  generalize (namR l).2.2 = nb at *
  go_wp2_with fail
  generalize hm : x1.heap.size = m at *
  generalize x1.alloc (.cells (zo15 s 0 false [] 0 0 0 0 0 0 0 0 0 0 0) 25) = x2 at *
  clear hm
  refine (timeR_any l la _ _ _ S1.out.rd).mono ?_
  rintro e x3 ⟨rfl, o, r⟩
  have S2 := Lib.hid (S1.out.step o r); clear o r S1
  obtain ⟨t0, t1⟩ := timR_bd la
  generalize (timR la).1 = t at *
  generalize (timR la).2.1 = lb at *
  generalize (timR la).2.2 = tb at *
  generalize (nb || tb) = bb at *
  have S4 := Lib.hid (show SzR m l w (zo15 s (-t) false [] 0 0 0 0 0 0 0 0 0 0 0) _ _ (x3.setCell ⟨m, 1, none⟩ (.int .i64 (-t))) from (S2.out.set 1 (.int .i64 (-t))))
  have c1 := cell_of (j := 1) S2.out.b1 rfl
  have f1 := fro_of S2.out.b1
  have n1 : ¬ w.heap.size + 1 = m := by have := S2.out.lo; omega
  have n2 : ¬ m = w.heap.size + 1 := by omega
  go_upto_region 6 with (fail)
  clear c1 f1 S2
  generalize x3.setCell ⟨m, 1, none⟩ (.int .i64 (-t)) = x4 at *
  have r0 := cell_of (j := 0) S4.out.rd.blk rfl
  have r1 := cell_of (j := 1) S4.out.rd.blk rfl
  have r2 := cell_of (j := 2) S4.out.rd.blk rfl
  have hle := S4.out.rd.le
  cases lb with
  | nil =>
    have RE := Lib.hid (RS.out (fun k => k.1 rfl)); clear RS RL
    simp only [List.length_nil, Nat.sub_zero] at r1
    have hg : decide (l.length < l.length) = false := by simp
    go_upto_region 15 with (fail)
    clear r0 r1 r2 hg
    obtain ⟨z, hz, SE, q1, q2⟩ : ∃ z : Zo, redR l = (z, [], bb) ∧ SzR m l w (zo15 z.std z.off z.has z.dst z.ahead z.fr.k z.fr.m z.fr.w z.fr.d z.fr.a z.to.k z.to.m z.to.w z.to.d z.to.a) ([]) bb _ ∧ z.std.length ≤ 1000 ∧ z.dst.length ≤ 1000 := ⟨⟨s, -t, false, [], 0, ru0, ru0⟩, RE.out, S4.out, by simp only; omega, by simp only [List.length_nil]; omega⟩
    have HZ := Lib.hid hz; clear hz
    have SX := Lib.hid SE; clear SE S4 RE
    go_wp2_with (refine wpList_load_row rfl 25 _ rfl m rfl 25 _ (0, 0) _ SX.out.b1 Tryd.underlying25 rfl (by kernel_rfl) ?_)
    cases hmay : mayZ z with
    | false =>
      have HM := Lib.hid hmay; clear hmay
      refine (rWrite_not z _ HM.out q1 q2).mono ?_
      rintro e x9 ⟨rfl, k⟩
      have SY := Lib.hid (SX.out.kept k); clear k SX
      cases bb with
      | true =>
        have r1 := cell_of (j := 1) SY.out.rd.blk rfl
        have r2 := cell_of (j := 2) SY.out.rd.blk rfl
        go_wp2_with (refine wpList_store_row rfl 25 _ _ rfl w.heap.size _ rfl rfl 25 _ SY.out.b0 (by kernel_rfl) rfl (zo15_one [] _ _ [] _ _ _ _ _ _ _ _ _ _ _) ?_)
        exact bodyPost_ret (v := .tuple #[zoV zo0, .int .i64 2]) (parseR_results w.heap.size zo0 2 _ _ _ rfl rfl SY.out.b0) rfl (post_none (prsR_bad HZ.out) (SY.out.k.setRow (Nat.le_refl _) _))
      | false =>
        have r1 := cell_of (j := 1) SY.out.rd.blk rfl
        have r2 := cell_of (j := 2) SY.out.rd.blk rfl
        simp only [List.length_nil, Nat.sub_zero] at r1
        have hg : decide (l.length < l.length) = false := by simp
        go_wp2_with (refine wpList_store_row rfl 25 _ _ rfl w.heap.size _ rfl rfl 25 _ SY.out.b0 (by kernel_rfl) rfl (zo15_one [] _ _ [] _ _ _ _ _ _ _ _ _ _ _) ?_)
        exact bodyPost_ret (v := .tuple #[zoV zo0, .int .i64 2]) (parseR_results w.heap.size zo0 2 _ _ _ rfl rfl SY.out.b0) rfl (post_none (prsR_not HZ.out HM.out) (SY.out.k.setRow (Nat.le_refl _) _))
    | true =>
      have HM := Lib.hid hmay; clear hmay
      refine (rWrite_yes z _ HM.out q2).mono ?_
      rintro e x9 ⟨rfl, k⟩
      have SY := Lib.hid (SX.out.kept k); clear k SX
      cases bb with
      | true =>
        have r1 := cell_of (j := 1) SY.out.rd.blk rfl
        have r2 := cell_of (j := 2) SY.out.rd.blk rfl
        go_wp2_with (refine wpList_store_row rfl 25 _ _ rfl w.heap.size _ rfl rfl 25 _ SY.out.b0 (by kernel_rfl) rfl (zo15_one [] _ _ [] _ _ _ _ _ _ _ _ _ _ _) ?_)
        exact bodyPost_ret (v := .tuple #[zoV zo0, .int .i64 2]) (parseR_results w.heap.size zo0 2 _ _ _ rfl rfl SY.out.b0) rfl (post_none (prsR_bad HZ.out) (SY.out.k.setRow (Nat.le_refl _) _))
      | false =>
        by_cases he : wt z = l
        · have r1 := cell_of (j := 1) SY.out.rd.blk rfl
          have r2 := cell_of (j := 2) SY.out.rd.blk rfl
          simp only [List.length_nil, Nat.sub_zero] at r1
          have hg : decide (l.length < l.length) = false := by simp
          have HE := Lib.hid he; clear he
          rw [HE.out]
          go_wp2_with (first | (refine wpList_load_row rfl 25 _ rfl m rfl 25 _ (0, 0) _ SY.out.b1 Tryd.underlying25 rfl (by kernel_rfl) ?_) | (refine wpList_store_row rfl 25 _ _ rfl w.heap.size _ rfl rfl 25 _ SY.out.b0 (by kernel_rfl) rfl (zo15_one _ _ _ _ _ _ _ _ _ _ _ _ _ _ _) ?_))
          exact bodyPost_ret (v := .tuple #[zoV z, .int .i64 0]) (parseR_results w.heap.size z 0 _ _ _ rfl rfl SY.out.b0) rfl (post_some (prsR_yes HZ.out HM.out HE.out) (SY.out.k.setRow (Nat.le_refl _) _))
        · have r1 := cell_of (j := 1) SY.out.rd.blk rfl
          have r2 := cell_of (j := 2) SY.out.rd.blk rfl
          simp only [List.length_nil, Nat.sub_zero] at r1
          have hg : decide (l.length < l.length) = false := by simp
          have HE := Lib.hid he
          have hne : (wt z == l) = false := by simpa using he
          clear he
          go_wp2_with (refine wpList_store_row rfl 25 _ _ rfl w.heap.size _ rfl rfl 25 _ SY.out.b0 (by kernel_rfl) rfl (zo15_one [] _ _ [] _ _ _ _ _ _ _ _ _ _ _) ?_)
          exact bodyPost_ret (v := .tuple #[zoV zo0, .int .i64 2]) (parseR_results w.heap.size zo0 2 _ _ _ rfl rfl SY.out.b0) rfl (post_none (prsR_ne HZ.out HE.out) (SY.out.k.setRow (Nat.le_refl _) _))
  | cons cb rb =>
    simp only [List.length_cons] at r1 hle
    have hg0 : l.length - (rb.length + 1) < l.length := by omega
    generalize l.length - (rb.length + 1) = k at *
    have hg : decide (k < l.length) = true := by simp; omega
    cases bb with
    | true =>
      have RE := Lib.hid (RS.out (fun k => by cases k.2)); clear RS RL
      go_upto_region 15 with (fail)
      clear r0 r1 r2 hg hg0
      obtain ⟨z, hz, SE, q1, q2⟩ : ∃ z : Zo, redR l = (z, cb :: rb, true) ∧ SzR m l w (zo15 z.std z.off z.has z.dst z.ahead z.fr.k z.fr.m z.fr.w z.fr.d z.fr.a z.to.k z.to.m z.to.w z.to.d z.to.a) (cb :: rb) true _ ∧ z.std.length ≤ 1000 ∧ z.dst.length ≤ 1000 := ⟨⟨s, -t, false, [], 0, ru0, ru0⟩, RE.out, S4.out, by simp only; omega, by simp only [List.length_nil]; omega⟩
      have HZ := Lib.hid hz; clear hz
      have SX := Lib.hid SE; clear SE S4 RE
      go_wp2_with (refine wpList_load_row rfl 25 _ rfl m rfl 25 _ (0, 0) _ SX.out.b1 Tryd.underlying25 rfl (by kernel_rfl) ?_)
      cases hmay : mayZ z with
      | false =>
        have HM := Lib.hid hmay; clear hmay
        refine (rWrite_not z _ HM.out q1 q2).mono ?_
        rintro e x9 ⟨rfl, k⟩
        have SY := Lib.hid (SX.out.kept k); clear k SX
        have r1 := cell_of (j := 1) SY.out.rd.blk rfl
        have r2 := cell_of (j := 2) SY.out.rd.blk rfl
        go_wp2_with (refine wpList_store_row rfl 25 _ _ rfl w.heap.size _ rfl rfl 25 _ SY.out.b0 (by kernel_rfl) rfl (zo15_one [] _ _ [] _ _ _ _ _ _ _ _ _ _ _) ?_)
        exact bodyPost_ret (v := .tuple #[zoV zo0, .int .i64 2]) (parseR_results w.heap.size zo0 2 _ _ _ rfl rfl SY.out.b0) rfl (post_none (prsR_bad HZ.out) (SY.out.k.setRow (Nat.le_refl _) _))
      | true =>
        have HM := Lib.hid hmay; clear hmay
        refine (rWrite_yes z _ HM.out q2).mono ?_
        rintro e x9 ⟨rfl, k⟩
        have SY := Lib.hid (SX.out.kept k); clear k SX
        have r1 := cell_of (j := 1) SY.out.rd.blk rfl
        have r2 := cell_of (j := 2) SY.out.rd.blk rfl
        go_wp2_with (refine wpList_store_row rfl 25 _ _ rfl w.heap.size _ rfl rfl 25 _ SY.out.b0 (by kernel_rfl) rfl (zo15_one [] _ _ [] _ _ _ _ _ _ _ _ _ _ _) ?_)
        exact bodyPost_ret (v := .tuple #[zoV zo0, .int .i64 2]) (parseR_results w.heap.size zo0 2 _ _ _ rfl rfl SY.out.b0) rfl (post_none (prsR_bad HZ.out) (SY.out.k.setRow (Nat.le_refl _) _))
    | false =>
      have RL2 := Lib.hid (fun a ha => RL.out a ⟨by simp, rfl⟩ ha); clear RS RL
      have S5 := Lib.hid (show SzR m l w (zo15 s (-t) true [] 0 0 0 0 0 0 0 0 0 0 0) _ _ (x4.setCell ⟨m, 2, none⟩ (.bool true)) from S4.out.set 2 (.bool true))
      have c2 := cell_of (j := 2) S4.out.b1 rfl
      have f1 := fro_of S4.out.b1
      go_wp2_with fail
      clear c2 f1 r0 r1 r2 hg hg0 S4
      generalize x4.setCell ⟨m, 2, none⟩ (.bool true) = x5 at *
      generalize cb :: rb = lc at *
      have hnd := namR_len lc
      have hlc := S5.out.rd.le
      refine (nameR_any l lc _ _ _ S5.out.rd).mono ?_
      rintro e x6 ⟨rfl, o, r⟩
      have S6 := Lib.hid (S5.out.step o r); clear o r S5
      generalize (namR lc).1 = d at *
      generalize (namR lc).2.1 = ld at *
      generalize (namR lc).2.2 = db at *
      have S7 := Lib.hid (show SzR m l w (zo15 s (-t) true d (-t + 3600) 0 0 0 0 0 0 0 0 0 0) _ _ ((x6.setCell ⟨m, 3, none⟩ (.string ⟨d.toArray⟩)).setCell ⟨m, 4, none⟩ (.int .i64 (-t + 3600))) from (S6.out.set 3 (.string ⟨d.toArray⟩)).set 4 (.int .i64 (-t + 3600)))
      have c1 := cell_of (j := 1) S6.out.b1 rfl
      have c3 := cell_of (j := 3) S6.out.b1 rfl
      have c4 := cell_of (j := 4) S6.out.b1 rfl
      have f1 := fro_of S6.out.b1
      go_wp2_with fail
      clear c1 c3 c4 f1 S6
      generalize (x6.setCell ⟨m, 3, none⟩ (.string ⟨d.toArray⟩)).setCell ⟨m, 4, none⟩ (.int .i64 (-t + 3600)) = x7 at *
      refine (see_any l ld _ _ _ S7.out.rd).mono ?_
      rintro e x8 ⟨rfl, o, r⟩
      have S8 := Lib.hid (S7.out.step o r); clear o r S7
      have RA := Lib.hid (show redRa (-t) ld = if ld.head? = some 44 then (-t + 3600, ld, false) else (-(timR ld).1, (timR ld).2.1, (timR ld).2.2) from rfl)
      have H44 := Lib.hid (see_44 ld)
      generalize seeB ld = sb at *
      by_cases hh : sb = 44
      · have RE3 := Lib.hid (RL2.out _ (RA.out.trans (if_pos (H44.out.2 hh)))); clear RL2 RA H44
        subst hh
        go_wp2_with fail
        refine (ruleR_any l ld _ _ _ S8.out.rd).mono ?_
        rintro e y1 ⟨rfl, o, r⟩
        have T1 := Lib.hid (S8.out.step o r); clear o r S8
        rcases hr1 : rulR ld with ⟨⟨k1, m1, q1, d1, a1⟩, lg, fb⟩
        rw [hr1] at T1 RE3
        clear hr1
        simp only at RE3
        have T1 := Lib.hid (show SzR m l w (zo15 s (-t) true d (-t + 3600) 0 0 0 0 0 0 0 0 0 0) lg _ y1 from T1.out)
        have T2 := Lib.hid (show SzR m l w (zo15 s (-t) true d (-t + 3600) k1 m1 q1 d1 a1 0 0 0 0 0) _ _ (((((y1.setCell ⟨m, 5, none⟩ (.int .i64 k1)).setCell ⟨m, 6, none⟩ (.int .i64 m1)).setCell ⟨m, 7, none⟩ (.int .i64 q1)).setCell ⟨m, 8, none⟩ (.int .i64 d1)).setCell ⟨m, 9, none⟩ (.int .i64 a1)) from (((((T1.out.set 5 (.int .i64 k1)).set 6 (.int .i64 m1)).set 7 (.int .i64 q1)).set 8 (.int .i64 d1)).set 9 (.int .i64 a1)))
        have c5 := cell_of (j := 5) T1.out.b1 rfl
        have c6 := cell_of (j := 6) T1.out.b1 rfl
        have c7 := cell_of (j := 7) T1.out.b1 rfl
        have c8 := cell_of (j := 8) T1.out.b1 rfl
        have c9 := cell_of (j := 9) T1.out.b1 rfl
        have f1 := fro_of T1.out.b1
        go_wp2_with fail
        clear c5 c6 c7 c8 c9 f1 T1
        generalize (((((y1.setCell ⟨m, 5, none⟩ (.int .i64 k1)).setCell ⟨m, 6, none⟩ (.int .i64 m1)).setCell ⟨m, 7, none⟩ (.int .i64 q1)).setCell ⟨m, 8, none⟩ (.int .i64 d1)).setCell ⟨m, 9, none⟩ (.int .i64 a1)) = y2 at *
        refine (ruleR_any l lg _ _ _ T2.out.rd).mono ?_
        rintro e y3 ⟨rfl, o, r⟩
        have T3 := Lib.hid (T2.out.step o r); clear o r T2
        rcases hr2 : rulR lg with ⟨⟨k2, m2, q2, d2, a2⟩, lh, gb⟩
        rw [hr2] at T3 RE3
        clear hr2
        simp only at RE3
        have T3 := Lib.hid (show SzR m l w (zo15 s (-t) true d (-t + 3600) k1 m1 q1 d1 a1 0 0 0 0 0) lh _ y3 from T3.out)
        have T4 := Lib.hid (show SzR m l w (zo15 s (-t) true d (-t + 3600) k1 m1 q1 d1 a1 k2 m2 q2 d2 a2) _ _ (((((y3.setCell ⟨m, 10, none⟩ (.int .i64 k2)).setCell ⟨m, 11, none⟩ (.int .i64 m2)).setCell ⟨m, 12, none⟩ (.int .i64 q2)).setCell ⟨m, 13, none⟩ (.int .i64 d2)).setCell ⟨m, 14, none⟩ (.int .i64 a2)) from (((((T3.out.set 10 (.int .i64 k2)).set 11 (.int .i64 m2)).set 12 (.int .i64 q2)).set 13 (.int .i64 d2)).set 14 (.int .i64 a2)))
        have c10 := cell_of (j := 10) T3.out.b1 rfl
        have c11 := cell_of (j := 11) T3.out.b1 rfl
        have c12 := cell_of (j := 12) T3.out.b1 rfl
        have c13 := cell_of (j := 13) T3.out.b1 rfl
        have c14 := cell_of (j := 14) T3.out.b1 rfl
        have f1 := fro_of T3.out.b1
        go_upto_region 15 with (fail)
        clear c10 c11 c12 c13 c14 f1 T3
        generalize (((((y3.setCell ⟨m, 10, none⟩ (.int .i64 k2)).setCell ⟨m, 11, none⟩ (.int .i64 m2)).setCell ⟨m, 12, none⟩ (.int .i64 q2)).setCell ⟨m, 13, none⟩ (.int .i64 d2)).setCell ⟨m, 14, none⟩ (.int .i64 a2)) = y4 at *
        have T5 := Lib.hid (show SzR m l w (zo15 s (-t) true d (-t + 3600) k1 m1 q1 d1 a1 k2 m2 q2 d2 a2) lh (false || db || false || fb || gb) y4 by simpa using T4.out); clear T4
        generalize (false || db || false || fb || gb) = bv at *
        obtain ⟨z, hz, SE, q1, q2⟩ : ∃ z : Zo, redR l = (z, lh, bv) ∧ SzR m l w (zo15 z.std z.off z.has z.dst z.ahead z.fr.k z.fr.m z.fr.w z.fr.d z.fr.a z.to.k z.to.m z.to.w z.to.d z.to.a) (lh) bv _ ∧ z.std.length ≤ 1000 ∧ z.dst.length ≤ 1000 := ⟨⟨s, -t, true, d, (-t + 3600), ⟨k1, m1, q1, d1, a1⟩, ⟨k2, m2, q2, d2, a2⟩⟩, RE3.out, T5.out, by simp only; omega, by simp only; omega⟩
        have HZ := Lib.hid hz; clear hz
        have SX := Lib.hid SE; clear SE T5 RE3
        go_wp2_with (refine wpList_load_row rfl 25 _ rfl m rfl 25 _ (0, 0) _ SX.out.b1 Tryd.underlying25 rfl (by kernel_rfl) ?_)
        cases hmay : mayZ z with
        | false =>
          have HM := Lib.hid hmay; clear hmay
          refine (rWrite_not z _ HM.out q1 q2).mono ?_
          rintro e x9 ⟨rfl, k⟩
          have SY := Lib.hid (SX.out.kept k); clear k SX
          cases bv with
          | true =>
            have r1 := cell_of (j := 1) SY.out.rd.blk rfl
            have r2 := cell_of (j := 2) SY.out.rd.blk rfl
            go_wp2_with (refine wpList_store_row rfl 25 _ _ rfl w.heap.size _ rfl rfl 25 _ SY.out.b0 (by kernel_rfl) rfl (zo15_one [] _ _ [] _ _ _ _ _ _ _ _ _ _ _) ?_)
            exact bodyPost_ret (v := .tuple #[zoV zo0, .int .i64 2]) (parseR_results w.heap.size zo0 2 _ _ _ rfl rfl SY.out.b0) rfl (post_none (prsR_bad HZ.out) (SY.out.k.setRow (Nat.le_refl _) _))
          | false =>
            cases lh with
            | nil =>
              have r1 := cell_of (j := 1) SY.out.rd.blk rfl
              have r2 := cell_of (j := 2) SY.out.rd.blk rfl
              simp only [List.length_nil, Nat.sub_zero] at r1
              have hg : decide (l.length < l.length) = false := by simp
              go_wp2_with (refine wpList_store_row rfl 25 _ _ rfl w.heap.size _ rfl rfl 25 _ SY.out.b0 (by kernel_rfl) rfl (zo15_one [] _ _ [] _ _ _ _ _ _ _ _ _ _ _) ?_)
              exact bodyPost_ret (v := .tuple #[zoV zo0, .int .i64 2]) (parseR_results w.heap.size zo0 2 _ _ _ rfl rfl SY.out.b0) rfl (post_none (prsR_not HZ.out HM.out) (SY.out.k.setRow (Nat.le_refl _) _))
            | cons ce re =>
              have r1 := cell_of (j := 1) SY.out.rd.blk rfl
              have r2 := cell_of (j := 2) SY.out.rd.blk rfl
              have hq := SY.out.rd.le
              simp only [List.length_cons] at r1 hq
              have hg0 : l.length - (re.length + 1) < l.length := by omega
              generalize l.length - (re.length + 1) = k at *
              have hg : decide (k < l.length) = true := by simp; omega
              go_wp2_with (refine wpList_store_row rfl 25 _ _ rfl w.heap.size _ rfl rfl 25 _ SY.out.b0 (by kernel_rfl) rfl (zo15_one [] _ _ [] _ _ _ _ _ _ _ _ _ _ _) ?_)
              exact bodyPost_ret (v := .tuple #[zoV zo0, .int .i64 2]) (parseR_results w.heap.size zo0 2 _ _ _ rfl rfl SY.out.b0) rfl (post_none (prsR_more HZ.out) (SY.out.k.setRow (Nat.le_refl _) _))
        | true =>
          have HM := Lib.hid hmay; clear hmay
          refine (rWrite_yes z _ HM.out q2).mono ?_
          rintro e x9 ⟨rfl, k⟩
          have SY := Lib.hid (SX.out.kept k); clear k SX
          cases bv with
          | true =>
            have r1 := cell_of (j := 1) SY.out.rd.blk rfl
            have r2 := cell_of (j := 2) SY.out.rd.blk rfl
            go_wp2_with (refine wpList_store_row rfl 25 _ _ rfl w.heap.size _ rfl rfl 25 _ SY.out.b0 (by kernel_rfl) rfl (zo15_one [] _ _ [] _ _ _ _ _ _ _ _ _ _ _) ?_)
            exact bodyPost_ret (v := .tuple #[zoV zo0, .int .i64 2]) (parseR_results w.heap.size zo0 2 _ _ _ rfl rfl SY.out.b0) rfl (post_none (prsR_bad HZ.out) (SY.out.k.setRow (Nat.le_refl _) _))
          | false =>
            cases lh with
            | nil =>
              by_cases he : wt z = l
              · have r1 := cell_of (j := 1) SY.out.rd.blk rfl
                have r2 := cell_of (j := 2) SY.out.rd.blk rfl
                simp only [List.length_nil, Nat.sub_zero] at r1
                have hg : decide (l.length < l.length) = false := by simp
                have HE := Lib.hid he; clear he
                rw [HE.out]
                go_wp2_with (first | (refine wpList_load_row rfl 25 _ rfl m rfl 25 _ (0, 0) _ SY.out.b1 Tryd.underlying25 rfl (by kernel_rfl) ?_) | (refine wpList_store_row rfl 25 _ _ rfl w.heap.size _ rfl rfl 25 _ SY.out.b0 (by kernel_rfl) rfl (zo15_one _ _ _ _ _ _ _ _ _ _ _ _ _ _ _) ?_))
                exact bodyPost_ret (v := .tuple #[zoV z, .int .i64 0]) (parseR_results w.heap.size z 0 _ _ _ rfl rfl SY.out.b0) rfl (post_some (prsR_yes HZ.out HM.out HE.out) (SY.out.k.setRow (Nat.le_refl _) _))
              · have r1 := cell_of (j := 1) SY.out.rd.blk rfl
                have r2 := cell_of (j := 2) SY.out.rd.blk rfl
                simp only [List.length_nil, Nat.sub_zero] at r1
                have hg : decide (l.length < l.length) = false := by simp
                have HE := Lib.hid he
                have hne : (wt z == l) = false := by simpa using he
                clear he
                go_wp2_with (refine wpList_store_row rfl 25 _ _ rfl w.heap.size _ rfl rfl 25 _ SY.out.b0 (by kernel_rfl) rfl (zo15_one [] _ _ [] _ _ _ _ _ _ _ _ _ _ _) ?_)
                exact bodyPost_ret (v := .tuple #[zoV zo0, .int .i64 2]) (parseR_results w.heap.size zo0 2 _ _ _ rfl rfl SY.out.b0) rfl (post_none (prsR_ne HZ.out HE.out) (SY.out.k.setRow (Nat.le_refl _) _))
            | cons ce re =>
              have r1 := cell_of (j := 1) SY.out.rd.blk rfl
              have r2 := cell_of (j := 2) SY.out.rd.blk rfl
              have hq := SY.out.rd.le
              simp only [List.length_cons] at r1 hq
              have hg0 : l.length - (re.length + 1) < l.length := by omega
              generalize l.length - (re.length + 1) = k at *
              have hg : decide (k < l.length) = true := by simp; omega
              go_wp2_with (refine wpList_store_row rfl 25 _ _ rfl w.heap.size _ rfl rfl 25 _ SY.out.b0 (by kernel_rfl) rfl (zo15_one [] _ _ [] _ _ _ _ _ _ _ _ _ _ _) ?_)
              exact bodyPost_ret (v := .tuple #[zoV zo0, .int .i64 2]) (parseR_results w.heap.size zo0 2 _ _ _ rfl rfl SY.out.b0) rfl (post_none (prsR_more HZ.out) (SY.out.k.setRow (Nat.le_refl _) _))
      · have RE2 := Lib.hid (RL2.out _ (RA.out.trans (if_neg (fun q => hh (H44.out.1 q))))); clear RL2 RA H44
        have hsb : ((sb : Int) != 44) = true := by simp; omega
        have hsb2 : ¬ (sb : Int) = 44 := by omega
        go_wp2_with fail
        clear hsb hsb2 hh
        refine (timeR_any l ld _ _ _ S8.out.rd).mono ?_
        rintro e xa ⟨rfl, o, r⟩
        have S9 := Lib.hid (S8.out.step o r); clear o r S8
        obtain ⟨u0, u1⟩ := timR_bd ld
        generalize (timR ld).1 = ta at *
        generalize (timR ld).2.1 = lf at *
        generalize (timR ld).2.2 = ab at *
        have RE3 := Lib.hid RE2.out; clear RE2
        have SA := Lib.hid (show SzR m l w (zo15 s (-t) true d (-ta) 0 0 0 0 0 0 0 0 0 0) _ _ (xa.setCell ⟨m, 4, none⟩ (.int .i64 (-ta))) from S9.out.set 4 (.int .i64 (-ta)))
        have c4 := cell_of (j := 4) S9.out.b1 rfl
        have f1 := fro_of S9.out.b1
        go_wp2_with fail
        clear c4 f1 S9
        generalize xa.setCell ⟨m, 4, none⟩ (.int .i64 (-ta)) = xb at *
        refine (ruleR_any l lf _ _ _ SA.out.rd).mono ?_
        rintro e y1 ⟨rfl, o, r⟩
        have T1 := Lib.hid (SA.out.step o r); clear o r SA
        rcases hr1 : rulR lf with ⟨⟨k1, m1, q1, d1, a1⟩, lg, fb⟩
        rw [hr1] at T1 RE3
        clear hr1
        simp only at RE3
        have T1 := Lib.hid (show SzR m l w (zo15 s (-t) true d (-ta) 0 0 0 0 0 0 0 0 0 0) lg _ y1 from T1.out)
        have T2 := Lib.hid (show SzR m l w (zo15 s (-t) true d (-ta) k1 m1 q1 d1 a1 0 0 0 0 0) _ _ (((((y1.setCell ⟨m, 5, none⟩ (.int .i64 k1)).setCell ⟨m, 6, none⟩ (.int .i64 m1)).setCell ⟨m, 7, none⟩ (.int .i64 q1)).setCell ⟨m, 8, none⟩ (.int .i64 d1)).setCell ⟨m, 9, none⟩ (.int .i64 a1)) from (((((T1.out.set 5 (.int .i64 k1)).set 6 (.int .i64 m1)).set 7 (.int .i64 q1)).set 8 (.int .i64 d1)).set 9 (.int .i64 a1)))
        have c5 := cell_of (j := 5) T1.out.b1 rfl
        have c6 := cell_of (j := 6) T1.out.b1 rfl
        have c7 := cell_of (j := 7) T1.out.b1 rfl
        have c8 := cell_of (j := 8) T1.out.b1 rfl
        have c9 := cell_of (j := 9) T1.out.b1 rfl
        have f1 := fro_of T1.out.b1
        go_wp2_with fail
        clear c5 c6 c7 c8 c9 f1 T1
        generalize (((((y1.setCell ⟨m, 5, none⟩ (.int .i64 k1)).setCell ⟨m, 6, none⟩ (.int .i64 m1)).setCell ⟨m, 7, none⟩ (.int .i64 q1)).setCell ⟨m, 8, none⟩ (.int .i64 d1)).setCell ⟨m, 9, none⟩ (.int .i64 a1)) = y2 at *
        refine (ruleR_any l lg _ _ _ T2.out.rd).mono ?_
        rintro e y3 ⟨rfl, o, r⟩
        have T3 := Lib.hid (T2.out.step o r); clear o r T2
        rcases hr2 : rulR lg with ⟨⟨k2, m2, q2, d2, a2⟩, lh, gb⟩
        rw [hr2] at T3 RE3
        clear hr2
        simp only at RE3
        have T3 := Lib.hid (show SzR m l w (zo15 s (-t) true d (-ta) k1 m1 q1 d1 a1 0 0 0 0 0) lh _ y3 from T3.out)
        have T4 := Lib.hid (show SzR m l w (zo15 s (-t) true d (-ta) k1 m1 q1 d1 a1 k2 m2 q2 d2 a2) _ _ (((((y3.setCell ⟨m, 10, none⟩ (.int .i64 k2)).setCell ⟨m, 11, none⟩ (.int .i64 m2)).setCell ⟨m, 12, none⟩ (.int .i64 q2)).setCell ⟨m, 13, none⟩ (.int .i64 d2)).setCell ⟨m, 14, none⟩ (.int .i64 a2)) from (((((T3.out.set 10 (.int .i64 k2)).set 11 (.int .i64 m2)).set 12 (.int .i64 q2)).set 13 (.int .i64 d2)).set 14 (.int .i64 a2)))
        have c10 := cell_of (j := 10) T3.out.b1 rfl
        have c11 := cell_of (j := 11) T3.out.b1 rfl
        have c12 := cell_of (j := 12) T3.out.b1 rfl
        have c13 := cell_of (j := 13) T3.out.b1 rfl
        have c14 := cell_of (j := 14) T3.out.b1 rfl
        have f1 := fro_of T3.out.b1
        go_upto_region 15 with (fail)
        clear c10 c11 c12 c13 c14 f1 T3
        generalize (((((y3.setCell ⟨m, 10, none⟩ (.int .i64 k2)).setCell ⟨m, 11, none⟩ (.int .i64 m2)).setCell ⟨m, 12, none⟩ (.int .i64 q2)).setCell ⟨m, 13, none⟩ (.int .i64 d2)).setCell ⟨m, 14, none⟩ (.int .i64 a2)) = y4 at *
        have T5 := Lib.hid (show SzR m l w (zo15 s (-t) true d (-ta) k1 m1 q1 d1 a1 k2 m2 q2 d2 a2) lh (false || db || ab || fb || gb) y4 by simpa using T4.out); clear T4
        generalize (false || db || ab || fb || gb) = bv at *
        obtain ⟨z, hz, SE, q1, q2⟩ : ∃ z : Zo, redR l = (z, lh, bv) ∧ SzR m l w (zo15 z.std z.off z.has z.dst z.ahead z.fr.k z.fr.m z.fr.w z.fr.d z.fr.a z.to.k z.to.m z.to.w z.to.d z.to.a) (lh) bv _ ∧ z.std.length ≤ 1000 ∧ z.dst.length ≤ 1000 := ⟨⟨s, -t, true, d, (-ta), ⟨k1, m1, q1, d1, a1⟩, ⟨k2, m2, q2, d2, a2⟩⟩, RE3.out, T5.out, by simp only; omega, by simp only; omega⟩
        have HZ := Lib.hid hz; clear hz
        have SX := Lib.hid SE; clear SE T5 RE3
        go_wp2_with (refine wpList_load_row rfl 25 _ rfl m rfl 25 _ (0, 0) _ SX.out.b1 Tryd.underlying25 rfl (by kernel_rfl) ?_)
        cases hmay : mayZ z with
        | false =>
          have HM := Lib.hid hmay; clear hmay
          refine (rWrite_not z _ HM.out q1 q2).mono ?_
          rintro e x9 ⟨rfl, k⟩
          have SY := Lib.hid (SX.out.kept k); clear k SX
          cases bv with
          | true =>
            have r1 := cell_of (j := 1) SY.out.rd.blk rfl
            have r2 := cell_of (j := 2) SY.out.rd.blk rfl
            go_wp2_with (refine wpList_store_row rfl 25 _ _ rfl w.heap.size _ rfl rfl 25 _ SY.out.b0 (by kernel_rfl) rfl (zo15_one [] _ _ [] _ _ _ _ _ _ _ _ _ _ _) ?_)
            exact bodyPost_ret (v := .tuple #[zoV zo0, .int .i64 2]) (parseR_results w.heap.size zo0 2 _ _ _ rfl rfl SY.out.b0) rfl (post_none (prsR_bad HZ.out) (SY.out.k.setRow (Nat.le_refl _) _))
          | false =>
            cases lh with
            | nil =>
              have r1 := cell_of (j := 1) SY.out.rd.blk rfl
              have r2 := cell_of (j := 2) SY.out.rd.blk rfl
              simp only [List.length_nil, Nat.sub_zero] at r1
              have hg : decide (l.length < l.length) = false := by simp
              go_wp2_with (refine wpList_store_row rfl 25 _ _ rfl w.heap.size _ rfl rfl 25 _ SY.out.b0 (by kernel_rfl) rfl (zo15_one [] _ _ [] _ _ _ _ _ _ _ _ _ _ _) ?_)
              exact bodyPost_ret (v := .tuple #[zoV zo0, .int .i64 2]) (parseR_results w.heap.size zo0 2 _ _ _ rfl rfl SY.out.b0) rfl (post_none (prsR_not HZ.out HM.out) (SY.out.k.setRow (Nat.le_refl _) _))
            | cons ce re =>
              have r1 := cell_of (j := 1) SY.out.rd.blk rfl
              have r2 := cell_of (j := 2) SY.out.rd.blk rfl
              have hq := SY.out.rd.le
              simp only [List.length_cons] at r1 hq
              have hg0 : l.length - (re.length + 1) < l.length := by omega
              generalize l.length - (re.length + 1) = k at *
              have hg : decide (k < l.length) = true := by simp; omega
              go_wp2_with (refine wpList_store_row rfl 25 _ _ rfl w.heap.size _ rfl rfl 25 _ SY.out.b0 (by kernel_rfl) rfl (zo15_one [] _ _ [] _ _ _ _ _ _ _ _ _ _ _) ?_)
              exact bodyPost_ret (v := .tuple #[zoV zo0, .int .i64 2]) (parseR_results w.heap.size zo0 2 _ _ _ rfl rfl SY.out.b0) rfl (post_none (prsR_more HZ.out) (SY.out.k.setRow (Nat.le_refl _) _))
        | true =>
          have HM := Lib.hid hmay; clear hmay
          refine (rWrite_yes z _ HM.out q2).mono ?_
          rintro e x9 ⟨rfl, k⟩
          have SY := Lib.hid (SX.out.kept k); clear k SX
          cases bv with
          | true =>
            have r1 := cell_of (j := 1) SY.out.rd.blk rfl
            have r2 := cell_of (j := 2) SY.out.rd.blk rfl
            go_wp2_with (refine wpList_store_row rfl 25 _ _ rfl w.heap.size _ rfl rfl 25 _ SY.out.b0 (by kernel_rfl) rfl (zo15_one [] _ _ [] _ _ _ _ _ _ _ _ _ _ _) ?_)
            exact bodyPost_ret (v := .tuple #[zoV zo0, .int .i64 2]) (parseR_results w.heap.size zo0 2 _ _ _ rfl rfl SY.out.b0) rfl (post_none (prsR_bad HZ.out) (SY.out.k.setRow (Nat.le_refl _) _))
          | false =>
            cases lh with
            | nil =>
              by_cases he : wt z = l
              · have r1 := cell_of (j := 1) SY.out.rd.blk rfl
                have r2 := cell_of (j := 2) SY.out.rd.blk rfl
                simp only [List.length_nil, Nat.sub_zero] at r1
                have hg : decide (l.length < l.length) = false := by simp
                have HE := Lib.hid he; clear he
                rw [HE.out]
                go_wp2_with (first | (refine wpList_load_row rfl 25 _ rfl m rfl 25 _ (0, 0) _ SY.out.b1 Tryd.underlying25 rfl (by kernel_rfl) ?_) | (refine wpList_store_row rfl 25 _ _ rfl w.heap.size _ rfl rfl 25 _ SY.out.b0 (by kernel_rfl) rfl (zo15_one _ _ _ _ _ _ _ _ _ _ _ _ _ _ _) ?_))
                exact bodyPost_ret (v := .tuple #[zoV z, .int .i64 0]) (parseR_results w.heap.size z 0 _ _ _ rfl rfl SY.out.b0) rfl (post_some (prsR_yes HZ.out HM.out HE.out) (SY.out.k.setRow (Nat.le_refl _) _))
              · have r1 := cell_of (j := 1) SY.out.rd.blk rfl
                have r2 := cell_of (j := 2) SY.out.rd.blk rfl
                simp only [List.length_nil, Nat.sub_zero] at r1
                have hg : decide (l.length < l.length) = false := by simp
                have HE := Lib.hid he
                have hne : (wt z == l) = false := by simpa using he
                clear he
                go_wp2_with (refine wpList_store_row rfl 25 _ _ rfl w.heap.size _ rfl rfl 25 _ SY.out.b0 (by kernel_rfl) rfl (zo15_one [] _ _ [] _ _ _ _ _ _ _ _ _ _ _) ?_)
                exact bodyPost_ret (v := .tuple #[zoV zo0, .int .i64 2]) (parseR_results w.heap.size zo0 2 _ _ _ rfl rfl SY.out.b0) rfl (post_none (prsR_ne HZ.out HE.out) (SY.out.k.setRow (Nat.le_refl _) _))
            | cons ce re =>
              have r1 := cell_of (j := 1) SY.out.rd.blk rfl
              have r2 := cell_of (j := 2) SY.out.rd.blk rfl
              have hq := SY.out.rd.le
              simp only [List.length_cons] at r1 hq
              have hg0 : l.length - (re.length + 1) < l.length := by omega
              generalize l.length - (re.length + 1) = k at *
              have hg : decide (k < l.length) = true := by simp; omega
              go_wp2_with (refine wpList_store_row rfl 25 _ _ rfl w.heap.size _ rfl rfl 25 _ SY.out.b0 (by kernel_rfl) rfl (zo15_one [] _ _ [] _ _ _ _ _ _ _ _ _ _ _) ?_)
              exact bodyPost_ret (v := .tuple #[zoV zo0, .int .i64 2]) (parseR_results w.heap.size zo0 2 _ _ _ rfl rfl SY.out.b0) rfl (post_none (prsR_more HZ.out) (SY.out.k.setRow (Nat.le_refl _) _))
end Go.Proofs.YtomnjdammfiadaaDoor
