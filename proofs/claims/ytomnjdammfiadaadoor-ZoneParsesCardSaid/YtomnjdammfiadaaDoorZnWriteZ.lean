/- Contracts of package zone: a zone's text. -/
import Derived.Test.YtomnjdammfiadaaDoorZnWrite
import Derived.IntWalk
namespace Go.Proofs.YtomnjdammfiadaaDoor
open Go.ChangeShapes Go.WideShapes Go.ChangeAt Go.RowKit
open Zn
set_option maxHeartbeats 1000000 in
theorem write_not (z : Zo) (w : World) (h : mayZ z = false) :
    Calls Tryd.prog 10 #[zoV z] w fun e w' => e = .returned (.tuple #[.string ⟨#[]⟩, .int .i64 1]) ∧ Kept w w' := by
  have H := Lib.hid h; clear h
  obtain ⟨std, off, has, dst, ahead, ⟨fk, fm, fw, fd, fa⟩, ⟨tk, tm, tw, td, ta⟩⟩ := z
  go_enter Tryd.func10, Tryd.ntmps10
  go_wp2_with fail
  refine (may_any ⟨std, off, has, dst, ahead, ⟨fk, fm, fw, fd, fa⟩, ⟨tk, tm, tw, td, ta⟩⟩ _).mono ?_
  rintro e w1 ⟨rfl, k1⟩
  rw [H.out]
  have kb := k1.back; clear k1
  go_wp2
  go_ret2
  exact ⟨rfl, kb⟩
theorem nt_len {l : List UInt8} (h : mayN l = true) : (nt l).length ≤ 12 := by
  have hl : l.length ≤ 10 := by simp [mayN] at h; omega
  unfold nt; split
  · omega
  · simp; omega
theorem rt_len {r : Ru} (h : mayR r = true) : (rt r).length ≤ 24 := by
  obtain ⟨k, m, x, d, a⟩ := r
  simp only [mayR, decide_eq_true_eq] at h
  have l1 := dec_len3 (n := m) (by omega)
  have l2 := dec_len3 (n := x) (by omega)
  have l3 := dec_len3 (n := d) (by omega)
  have l4 := tt_len (n := a) (by omega) (by omega)
  have hA : (rtA ⟨k, m, x, d, a⟩).length ≤ 11 := by
    unfold rtA; split
    · simp
    · simp only [List.length_cons]; omega
  have hK : (rtK ⟨k, m, x, d, a⟩).length ≤ 9 := by
    unfold rtK; simp only; split
    · simp
    · split
      · simp only [List.length_cons, List.length_append, List.length_nil]; omega
      · simp
  unfold rt
  simp only [List.length_cons, List.length_append]
  omega
/-- block b reads as the zone's cells -/
structure Cs (b : Nat) (z : Zo) (x : World) : Prop where
  c0 : x.cell? ⟨b, 0, none⟩ = some (.string ⟨z.std.toArray⟩)
  c1 : x.cell? ⟨b, 1, none⟩ = some (.int .i64 z.off)
  c2 : x.cell? ⟨b, 2, none⟩ = some (.bool z.has)
  c3 : x.cell? ⟨b, 3, none⟩ = some (.string ⟨z.dst.toArray⟩)
  c4 : x.cell? ⟨b, 4, none⟩ = some (.int .i64 z.ahead)
  c5 : x.cell? ⟨b, 5, none⟩ = some (.int .i64 z.fr.k)
  c6 : x.cell? ⟨b, 6, none⟩ = some (.int .i64 z.fr.m)
  c7 : x.cell? ⟨b, 7, none⟩ = some (.int .i64 z.fr.w)
  c8 : x.cell? ⟨b, 8, none⟩ = some (.int .i64 z.fr.d)
  c9 : x.cell? ⟨b, 9, none⟩ = some (.int .i64 z.fr.a)
  c10 : x.cell? ⟨b, 10, none⟩ = some (.int .i64 z.to.k)
  c11 : x.cell? ⟨b, 11, none⟩ = some (.int .i64 z.to.m)
  c12 : x.cell? ⟨b, 12, none⟩ = some (.int .i64 z.to.w)
  c13 : x.cell? ⟨b, 13, none⟩ = some (.int .i64 z.to.d)
  c14 : x.cell? ⟨b, 14, none⟩ = some (.int .i64 z.to.a)
theorem Cs.kept {b : Nat} {z : Zo} {x x' : World} (h : Cs b z x) (k : Kept x x') (hb : b < x.heap.size) : Cs b z x' := by
  have q : ∀ j, x'.cell? ⟨b, j, none⟩ = x.cell? ⟨b, j, none⟩ := fun j => k.cell (a := ⟨b, j, none⟩) hb
  exact ⟨(q 0).trans h.c0, (q 1).trans h.c1, (q 2).trans h.c2, (q 3).trans h.c3, (q 4).trans h.c4, (q 5).trans h.c5, (q 6).trans h.c6, (q 7).trans h.c7, (q 8).trans h.c8, (q 9).trans h.c9, (q 10).trans h.c10, (q 11).trans h.c11, (q 12).trans h.c12, (q 13).trans h.c13, (q 14).trans h.c14⟩
theorem Cs.of_new {z : Zo} {w x : World} (k : Kept (w.alloc (.cells #[.string ⟨z.std.toArray⟩, .int .i64 z.off, .bool z.has, .string ⟨z.dst.toArray⟩, .int .i64 z.ahead, .int .i64 z.fr.k, .int .i64 z.fr.m, .int .i64 z.fr.w, .int .i64 z.fr.d, .int .i64 z.fr.a, .int .i64 z.to.k, .int .i64 z.to.m, .int .i64 z.to.w, .int .i64 z.to.d, .int .i64 z.to.a] 25)) x) : Cs w.heap.size z x :=
  ⟨k.new 0 rfl, k.new 1 rfl, k.new 2 rfl, k.new 3 rfl, k.new 4 rfl, k.new 5 rfl, k.new 6 rfl, k.new 7 rfl, k.new 8 rfl, k.new 9 rfl, k.new 10 rfl, k.new 11 rfl, k.new 12 rfl, k.new 13 rfl, k.new 14 rfl⟩
theorem ret_str2 {a b : ByteArray} {v : Value} (h : a = b) : Ending.returned (.tuple #[.string a, v]) = .returned (.tuple #[.string b, v]) := by rw [h]
theorem held3 {W x x' : World} {b : Nat} {v0 v1 v2 : Value} (k : Kept x x') (H : Kept W x ∧ x.cell? ⟨b, 0, none⟩ = some v0 ∧ x.cell? ⟨b, 1, none⟩ = some v1 ∧ x.cell? ⟨b, 2, none⟩ = some v2 ∧ Tab x) (hb : b < W.heap.size) :
    Kept W x' ∧ x'.cell? ⟨b, 0, none⟩ = some v0 ∧ x'.cell? ⟨b, 1, none⟩ = some v1 ∧ x'.cell? ⟨b, 2, none⟩ = some v2 ∧ Tab x' := by
  obtain ⟨h0, h1, h2, h3, h4⟩ := H
  have hb' : b < x.heap.size := Nat.lt_of_lt_of_le hb h0.size
  exact ⟨h0.trans k, (k.cell (a := ⟨b, 0, none⟩) hb').trans h1, (k.cell (a := ⟨b, 1, none⟩) hb').trans h2, (k.cell (a := ⟨b, 2, none⟩) hb').trans h3, k.tab' h4⟩
set_option maxRecDepth 100000 in
set_option maxHeartbeats 2000000 in
theorem write_plain (std : List UInt8) (off : Int) (dst : List UInt8) (ahead : Int) (fr to : Ru) (w : World) (h : mayZ ⟨std, off, false, dst, ahead, fr, to⟩ = true) (htab : Tab w) :
    Calls Tryd.prog 10 #[zoV ⟨std, off, false, dst, ahead, fr, to⟩] w fun e w' => e = .returned (.tuple #[.string ⟨(nt std ++ tt (-off)).toArray⟩, .int .i64 0]) ∧ Kept w w' := by
  have HT := Lib.hid htab; clear htab
  have h1 : mayN std = true := by unfold mayZ at h; simp only [Bool.and_eq_true] at h; exact h.1.1
  have h2 : offB off = true := by unfold mayZ at h; simp only [Bool.and_eq_true] at h; exact h.1.2
  obtain ⟨o1, o2⟩ := off_bd h2
  have l1 := nt_len h1
  have l2 := tt_len (n := -off) (by omega) (by omega)
  have H1 := Lib.hid h1; clear h1 h2
  have H := Lib.hid h; clear h
  have hno : ¬ 9223372036854775807 < (nt std).length + (tt (-off)).length := by omega
  have hwn : IntKind.i64.wrap (-off) = -off := IntWalk.i64_in _ (by omega)
  go_enter Tryd.func10, Tryd.ntmps10
  go_wp2_with fail
  refine (may_any ⟨std, off, false, dst, ahead, fr, to⟩ _).mono ?_
  rintro e w1 ⟨rfl, k1⟩
  rw [H.out]
  have C := Cs.of_new (z := ⟨std, off, false, dst, ahead, fr, to⟩) k1
  have c0 := C.c0
  have c1 := C.c1
  have c2 := C.c2
  have hb : w.heap.size < w1.heap.size := by have := k1.size; simp at this; omega
  have kb := k1.back; clear k1 C
  have ht := kb.tab' HT.out
  go_wp2_with fail
  go_region_held3 (fun y => Kept w1 y ∧ y.cell? ⟨w.heap.size, 0, none⟩ = some (.string ⟨std.toArray⟩) ∧ y.cell? ⟨w.heap.size, 1, none⟩ = some (.int .i64 off) ∧ y.cell? ⟨w.heap.size, 2, none⟩ = some (.bool false) ∧ Tab y) (first | exact held3 (by assumption) (by assumption) hb | assumption | exact ⟨(Kept.refl w1).drew, c0, c1, c2, ht⟩)
    (first | (go_at_call 19; refine (nameText_any _ _ H1.out).mono ?_; rintro e w' ⟨rfl, rfl⟩)
           | (go_at_call 20; refine (timeText_any _ _ (by omega) (by omega) (by go_split_ands; assumption)).mono ?_; rintro e w' ⟨rfl, hk'⟩))
  obtain ⟨hK, _, _, c2', _⟩ := ‹Kept w1 _ ∧ _›
  go_wp2
  go_ret2
  exact ⟨ret_str2 (app_mk _ _), kb.trans hK⟩
theorem held10 {W x x' : World} {b : Nat} {v5 v6 v7 v8 v9 v10 v11 v12 v13 v14 : Value} (k : Kept x x') (H : Kept W x ∧ b < x.heap.size ∧ x.cell? ⟨b, 5, none⟩ = some v5 ∧ x.cell? ⟨b, 6, none⟩ = some v6 ∧ x.cell? ⟨b, 7, none⟩ = some v7 ∧ x.cell? ⟨b, 8, none⟩ = some v8 ∧ x.cell? ⟨b, 9, none⟩ = some v9 ∧ x.cell? ⟨b, 10, none⟩ = some v10 ∧ x.cell? ⟨b, 11, none⟩ = some v11 ∧ x.cell? ⟨b, 12, none⟩ = some v12 ∧ x.cell? ⟨b, 13, none⟩ = some v13 ∧ x.cell? ⟨b, 14, none⟩ = some v14 ∧ Tab x) :
    Kept W x' ∧ b < x'.heap.size ∧ x'.cell? ⟨b, 5, none⟩ = some v5 ∧ x'.cell? ⟨b, 6, none⟩ = some v6 ∧ x'.cell? ⟨b, 7, none⟩ = some v7 ∧ x'.cell? ⟨b, 8, none⟩ = some v8 ∧ x'.cell? ⟨b, 9, none⟩ = some v9 ∧ x'.cell? ⟨b, 10, none⟩ = some v10 ∧ x'.cell? ⟨b, 11, none⟩ = some v11 ∧ x'.cell? ⟨b, 12, none⟩ = some v12 ∧ x'.cell? ⟨b, 13, none⟩ = some v13 ∧ x'.cell? ⟨b, 14, none⟩ = some v14 ∧ Tab x' := by
  obtain ⟨h0, hb', h5, h6, h7, h8, h9, h10, h11, h12, h13, h14, ht⟩ := H
  have q : ∀ j, x'.cell? ⟨b, j, none⟩ = x.cell? ⟨b, j, none⟩ := fun j => k.cell (a := ⟨b, j, none⟩) hb'
  exact ⟨h0.trans k, Nat.lt_of_lt_of_le hb' k.size, (q 5).trans h5, (q 6).trans h6, (q 7).trans h7, (q 8).trans h8, (q 9).trans h9, (q 10).trans h10, (q 11).trans h11, (q 12).trans h12, (q 13).trans h13, (q 14).trans h14, k.tab' ht⟩
theorem size_mk (l : List UInt8) : (ByteArray.mk l.toArray).size = l.length := rfl
end Go.Proofs.YtomnjdammfiadaaDoor
