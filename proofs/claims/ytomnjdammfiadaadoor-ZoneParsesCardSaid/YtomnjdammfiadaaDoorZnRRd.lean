/- Contracts of the document's reader of zones: its steps. -/
import Derived.Test.YtomnjdammfiadaaDoorZnRef
import Derived.Test.YtomnjdammfiadaaDoorZnRPure
import Derived.Test.YtomnjdammfiadaaDoorZnRdR
import Derived.Deep.QuietTactic
import Derived.BigQuiet
namespace Go.Proofs.YtomnjdammfiadaaDoor
open Go.ChangeShapes Go.WideShapes Go.ChangeAt Go.RowKit
open Zn
/-- nothing has turned but the document's reader -/
structure Onl (bk : Nat) (w w' : World) : Prop where
  os : w'.os = w.os
  output : w'.output = w.output
  size : w.heap.size ≤ w'.heap.size
  block : ∀ k, k < w.heap.size → k ≠ bk → w'.heap[k]? = w.heap[k]?
  frozen : ∀ j, w'.frozen? ⟨bk, j, none⟩ = w.frozen? ⟨bk, j, none⟩
theorem Onl.refl (bk : Nat) (w : World) : Onl bk w w := ⟨rfl, rfl, Nat.le_refl _, fun _ _ _ => rfl, fun _ => rfl⟩
theorem Onl.trans {bk : Nat} {a b c : World} (h : Onl bk a b) (k : Onl bk b c) : Onl bk a c :=
  ⟨k.os.trans h.os, k.output.trans h.output, Nat.le_trans h.size k.size, fun i hi hn => (k.block i (Nat.lt_of_lt_of_le hi h.size) hn).trans (h.block i hi hn), fun j => (k.frozen j).trans (h.frozen j)⟩
theorem Onl.set {bk : Nat} {w x : World} (h : Onl bk w x) (j : Nat) (v : Value) : Onl bk w (x.setCell ⟨bk, j, none⟩ v) :=
  ⟨h.os, h.output, by simpa [World.setCell] using h.size, fun k hk hn => (Below.heap_setCell _ _ _ _ hn).trans (h.block k hk hn), fun i => (World.frozen?_setCell _ _ _ _).trans (h.frozen i)⟩
theorem Onl.drewN {bk : Nat} {w x : World} (h : Onl bk w x) (n : Nat) : Onl bk w (x.drewN n) := ⟨h.os, h.output, h.size, h.block, h.frozen⟩
/-- the reader: its text, what is left of it, whether something was wrong -/
structure Rr (bk : Nat) (S l : List UInt8) (bad : Bool) (x : World) : Prop where
  blk : x.heap[bk]? = some (.cells #[.string ⟨S.toArray⟩, .int .i64 ((S.length - l.length : Nat) : Int), .bool bad] 47)
  le : l.length ≤ S.length
  suf : S.drop (S.length - l.length) = l
  sl : S.length ≤ 1000
theorem Rr.drewN {bk : Nat} {S l : List UInt8} {bad : Bool} {x : World} (h : Rr bk S l bad x) (n : Nat) : Rr bk S l bad (x.drewN n) := ⟨h.blk, h.le, h.suf, h.sl⟩
theorem Rr.tail {bk : Nat} {S r : List UInt8} {c : UInt8} {bad : Bool} {x : World} (h : Rr bk S (c :: r) bad x) : Rr bk S r bad (x.setCell ⟨bk, 1, none⟩ (.int .i64 ((S.length - r.length : Nat) : Int))) := by
  have hl := h.le
  simp only [List.length_cons] at hl
  refine ⟨block_set h.blk _, by omega, ?_, h.sl⟩
  have e := h.suf
  simp only [List.length_cons] at e
  rw [show S.length - r.length = (S.length - (r.length + 1)) + 1 by omega, ← List.drop_drop, e]; rfl
theorem Rr.spoil {bk : Nat} {S l : List UInt8} {bad : Bool} {x : World} (h : Rr bk S l bad x) (b : Bool) : Rr bk S l b (x.setCell ⟨bk, 2, none⟩ (.bool b)) := ⟨block_set h.blk _, h.le, h.suf, h.sl⟩
theorem Rr.lt {bk : Nat} {S l : List UInt8} {bad : Bool} {x : World} (h : Rr bk S l bad x) : bk < x.heap.size := (Array.getElem?_eq_some_iff.1 h.blk).1
theorem Rr.at {bk : Nat} {S r : List UInt8} {c : UInt8} {bad : Bool} {x : World} (h : Rr bk S (c :: r) bad x) : ∃ hk : S.length - (r.length + 1) < S.length, S[S.length - (r.length + 1)] = c := by
  have hl := h.le
  simp only [List.length_cons] at hl
  have hk : S.length - (r.length + 1) < S.length := by omega
  refine ⟨hk, ?_⟩
  have e := h.suf
  simp only [List.length_cons] at e
  rw [List.drop_eq_getElem_cons hk] at e
  exact (List.cons.inj e).1
def StepR (v : Value) (S r : List UInt8) (bad : Bool) (bk : Nat) (w : World) (e : Ending) (w' : World) : Prop := e = .returned v ∧ Onl bk w w' ∧ Rr bk S r bad w'
theorem is_nil (c : UInt8) (S : List UInt8) (bad : Bool) (bk : Nat) (w : World) (h : Rr bk S [] bad w) :
    Calls Tryd.prog 48 #[.pointer (some ⟨bk, 0, none⟩), .int .u8 c.toNat] w (StepR (.bool false) S [] bad bk w) := by
  have c0 : w.cell? ⟨bk, 0, none⟩ = some (.string ⟨S.toArray⟩) := cell_of (j := 0) h.blk rfl
  have c1 : w.cell? ⟨bk, 1, none⟩ = some (.int .i64 S.length) := cell_of (j := 1) h.blk rfl
  have hs := h.sl
  have H := Lib.hid h; clear h
  have hg : decide ((S.length : Int) ≥ S.length) = true := by simp
  go_enter Tryd.func48, Tryd.ntmps48
  go_wp2_with fail
  go_quiet (fail)
  go_wp2
  go_ret
  exact ⟨rfl, (Onl.refl _ _).drewN _, H.out.drewN _⟩
set_option maxHeartbeats 1000000 in
theorem is_no (c b : UInt8) (S r : List UInt8) (bad : Bool) (bk : Nat) (w : World) (h : Rr bk S (b :: r) bad w) (hn : ¬ b = c) :
    Calls Tryd.prog 48 #[.pointer (some ⟨bk, 0, none⟩), .int .u8 c.toNat] w (StepR (.bool false) S (b :: r) bad bk w) := by
  obtain ⟨hk, hat⟩ := h.at
  have c0 : w.cell? ⟨bk, 0, none⟩ = some (.string ⟨S.toArray⟩) := cell_of (j := 0) h.blk rfl
  have c1 : w.cell? ⟨bk, 1, none⟩ = some (.int .i64 ((S.length - (r.length + 1) : Nat) : Int)) := cell_of (j := 1) h.blk rfl
  have hs := h.sl
  have H := Lib.hid h; clear h
  generalize S.length - (r.length + 1) = k at *
  have hne : ¬ ((ByteArray.mk S.toArray)[k]'hk).toNat = c.toNat := by
    show ¬ (S[k]).toNat = c.toNat
    rw [hat]
    intro e
    exact hn (UInt8.toNat_inj.1 e)
  clear hat hn
  have hne2 : ((((ByteArray.mk S.toArray)[k]'hk).toNat : Int) != (c.toNat : Int)) = true := by
    rw [bne_iff_ne]; omega
  have hne3 : (((ByteArray.mk S.toArray)[k]'hk).toNat != c.toNat) = true := by
    rw [bne_iff_ne]; exact hne
  have hg : decide (S.length ≤ k) = false := by simp; omega
  have hk1 : (0 : Int) ≤ k := by omega
  have hk2 : (k : Int) < S.length := by omega
  go_enter Tryd.func48, Tryd.ntmps48
  go_wp2_with fail
  go_quiet (fail)
  go_wp2
  go_ret
  exact ⟨rfl, (Onl.refl _ _).drewN _, H.out.drewN _⟩
set_option maxHeartbeats 1000000 in
theorem is_yes (c : UInt8) (S r : List UInt8) (bad : Bool) (bk : Nat) (w : World) (h : Rr bk S (c :: r) bad w) :
    Calls Tryd.prog 48 #[.pointer (some ⟨bk, 0, none⟩), .int .u8 c.toNat] w (StepR (.bool true) S r bad bk w) := by
  obtain ⟨hk, hat⟩ := h.at
  have hle := h.le
  simp only [List.length_cons] at hle
  have c0 : w.cell? ⟨bk, 0, none⟩ = some (.string ⟨S.toArray⟩) := cell_of (j := 0) h.blk rfl
  have c1 : w.cell? ⟨bk, 1, none⟩ = some (.int .i64 ((S.length - (r.length + 1) : Nat) : Int)) := cell_of (j := 1) h.blk rfl
  have f1 := fro_of h.blk 1
  have hs := h.sl
  have H := Lib.hid (fun n => (h.drewN n).tail); clear h
  have hv : ((S.length - r.length : Nat) : Int) = ((S.length - (r.length + 1) : Nat) : Int) + 1 := by omega
  rw [hv] at H
  clear hv
  generalize S.length - (r.length + 1) = k at *
  have hne : ((ByteArray.mk S.toArray)[k]'hk).toNat = c.toNat := by
    show (S[k]).toNat = c.toNat
    rw [hat]
  have hne2 : ((((ByteArray.mk S.toArray)[k]'hk).toNat : Int) != (c.toNat : Int)) = false := by
    rw [bne_eq_false_iff_eq]; omega
  have hne3 : (((ByteArray.mk S.toArray)[k]'hk).toNat != c.toNat) = false := by
    rw [bne_eq_false_iff_eq]; exact hne
  clear hat hne
  have hg : decide (S.length ≤ k) = false := by simp; omega
  have hk1 : (0 : Int) ≤ k := by omega
  have hk2 : (k : Int) < S.length := by omega
  go_enter Tryd.func48, Tryd.ntmps48
  go_wp2_with fail
  go_quiet (fail)
  go_wp2
  go_ret
  exact ⟨rfl, ((Onl.refl _ _).drewN _).set _ _, H.out _⟩
theorem is_any (c : UInt8) (S l : List UInt8) (bad : Bool) (bk : Nat) (w : World) (h : Rr bk S l bad w) :
    Calls Tryd.prog 48 #[.pointer (some ⟨bk, 0, none⟩), .int .u8 c.toNat] w (StepR (.bool (skp c l).1) S (skp c l).2 bad bk w) := by
  cases l with
  | nil => exact is_nil c S bad bk w h
  | cons b r =>
    by_cases hb : b = c
    · subst hb; rw [skp_yes]; exact is_yes b S r bad bk w h
    · rw [show skp c (b :: r) = (false, b :: r) by simp [skp, hb]]; exact is_no c b S r bad bk w h hb
/-- the byte that comes next; 0: none -/
def seeB (l : List UInt8) : Nat := match l with
  | [] => 0
  | c :: _ => c.toNat
set_option maxHeartbeats 1000000 in
theorem see_any (S l : List UInt8) (bad : Bool) (bk : Nat) (w : World) (h : Rr bk S l bad w) :
    Calls Tryd.prog 34 #[.pointer (some ⟨bk, 0, none⟩)] w (StepR (.int .u8 (seeB l)) S l bad bk w) := by
  cases l with
  | nil =>
    have c0 : w.cell? ⟨bk, 0, none⟩ = some (.string ⟨S.toArray⟩) := cell_of (j := 0) h.blk rfl
    have c1 : w.cell? ⟨bk, 1, none⟩ = some (.int .i64 S.length) := cell_of (j := 1) h.blk rfl
    have hs := h.sl
    have H := Lib.hid h; clear h
    go_enter Tryd.func34, Tryd.ntmps34
    go_wp2_with fail
    go_quiet (fail)
    go_wp2
    go_ret
    exact ⟨rfl, (Onl.refl _ _).drewN _, H.out.drewN _⟩
  | cons b r =>
    obtain ⟨hk, hat⟩ := h.at
    have c0 : w.cell? ⟨bk, 0, none⟩ = some (.string ⟨S.toArray⟩) := cell_of (j := 0) h.blk rfl
    have c1 : w.cell? ⟨bk, 1, none⟩ = some (.int .i64 ((S.length - (r.length + 1) : Nat) : Int)) := cell_of (j := 1) h.blk rfl
    have hs := h.sl
    have H := Lib.hid h; clear h
    generalize S.length - (r.length + 1) = k at *
    have HA := Lib.hid (show ((ByteArray.mk S.toArray)[k]'hk) = b from hat); clear hat
    have hg : decide (k < S.length) = true := by simp; omega
    have hk1 : (0 : Int) ≤ k := by omega
    have hk2 : (k : Int) < S.length := by omega
    go_enter Tryd.func34, Tryd.ntmps34
    go_wp2_with fail
    go_quiet (fail)
    go_wp2_with fail
    go_quiet (fail)
    go_wp2
    go_ret
    exact ⟨by rw [HA.out]; rfl, ((Onl.refl _ _).drewN _).drewN _, (H.out.drewN _).drewN _⟩
end Go.Proofs.YtomnjdammfiadaaDoor
