/- Contracts of package zone: the reader's steps. -/
import Derived.Test.YtomnjdammfiadaaDoorZnFns
import Derived.Lib.ConvBytes
import Derived.Laws.IdiomStrings
namespace Go.Proofs.YtomnjdammfiadaaDoor
open Go.ChangeShapes Go.WideShapes Go.ChangeAt Go.RowKit
open Zn
/-- nothing has turned but a reader's text (blocks may have come behind) -/
structure Only (bk : Nat) (w w' : World) : Prop where
  os : w'.os = w.os
  output : w'.output = w.output
  size : w.heap.size ≤ w'.heap.size
  block : ∀ k, k < w.heap.size → k ≠ bk → w'.heap[k]? = w.heap[k]?
  frozen : w'.frozen? ⟨bk, 0, none⟩ = w.frozen? ⟨bk, 0, none⟩
theorem Only.refl (bk : Nat) (w : World) : Only bk w w := ⟨rfl, rfl, Nat.le_refl _, fun _ _ _ => rfl, rfl⟩
theorem Only.trans {bk : Nat} {a b c : World} (h : Only bk a b) (k : Only bk b c) : Only bk a c :=
  ⟨k.os.trans h.os, k.output.trans h.output, Nat.le_trans h.size k.size, fun i hi hn => (k.block i (Nat.lt_of_lt_of_le hi h.size) hn).trans (h.block i hi hn), k.frozen.trans h.frozen⟩
theorem Only.set (bk : Nat) (w : World) (v : Value) : Only bk w (w.setCell ⟨bk, 0, none⟩ v) :=
  ⟨rfl, rfl, by simp [World.setCell], fun k hk hn => Below.heap_setCell _ _ _ _ hn, World.frozen?_setCell _ _ _ _⟩
theorem Only.of_kept {bk : Nat} {w w' : World} (h : Kept w w') (hb : bk < w.heap.size) : Only bk w w' :=
  ⟨h.os, h.output, h.size, fun k hk _ => h.block k hk, h.frozen hb⟩
/-- the reader's text -/
structure Rd (bk : Nat) (l : List UInt8) (x : World) : Prop where
  lt : bk < x.heap.size
  cell : x.cell? ⟨bk, 0, none⟩ = some (.string ⟨l.toArray⟩)
  fro : x.frozen? ⟨bk, 0, none⟩ = false
theorem Rd.step {bk : Nat} {l r : List UInt8} {x x' : World} (h : Rd bk l x) (o : Only bk x x') (hc : x'.cell? ⟨bk, 0, none⟩ = some (.string ⟨r.toArray⟩)) : Rd bk r x' :=
  ⟨Nat.lt_of_lt_of_le h.lt o.size, hc, o.frozen.trans h.fro⟩
def StepPost (v : Value) (r : List UInt8) (bk : Nat) (w : World) (e : Ending) (w' : World) : Prop := e = .returned v ∧ Only bk w w' ∧ Rd bk r w'
theorem hasPrefix_one (l : List UInt8) (c : UInt8) : Lib.hasPrefix l [c] = (skp c l).1 := by
  cases l with
  | nil => rfl
  | cons b r =>
    simp only [Lib.hasPrefix, skp]
    by_cases h : b = c
    · subst h; simp
    · have e : (c == b) = false := by simpa using fun e : c = b => h e.symm
      rw [if_neg h]; simp [List.isPrefixOf, e]
theorem trimPrefix_one (l : List UInt8) (c : UInt8) : Lib.trimPrefix l [c] = (skp c l).2 := by
  cases l with
  | nil => rfl
  | cons b r =>
    simp only [Lib.trimPrefix, skp, hasPrefix_one]
    by_cases h : b = c
    · subst h; simp
    · rw [if_neg h]; rfl
theorem skip_any (c : UInt8) (l : List UInt8) (bk : Nat) (w : World) (h : Rd bk l w) :
    Calls Tryd.prog 54 #[.pointer (some ⟨bk, 0, none⟩), .string ⟨#[c]⟩] w (StepPost (.bool (skp c l).1) (skp c l).2 bk w) := by
  have hc := h.cell
  have hf := h.fro
  have H := Lib.hid h; clear h
  go_enter Tryd.func54, Tryd.ntmps54
  go_wp2_with fail
  refine (Tryd.strings_CutPrefix _ _ _).mono ?_
  rintro e w1 ⟨rfl, rfl⟩
  rw [show (ByteArray.mk l.toArray).data.toList = l by simp, show (ByteArray.mk #[c]).data.toList = [c] from rfl, hasPrefix_one, trimPrefix_one]
  go_wp2
  go_ret
  have o := Only.set bk w1 (.string ⟨(skp c l).2.toArray⟩)
  exact ⟨rfl, o, H.out.step o (World.cell?_setCell_same _ _ _ hc)⟩
theorem take_tw (p : UInt8 → Bool) (l : List UInt8) : l.take (l.takeWhile p).length = l.takeWhile p := by
  induction l with
  | nil => rfl
  | cons c r ih => rw [List.takeWhile_cons]; split <;> simp [ih]
theorem drop_tw (p : UInt8 → Bool) (l : List UInt8) : l.drop (l.takeWhile p).length = l.dropWhile p := by
  induction l with
  | nil => rfl
  | cons c r ih => rw [List.takeWhile_cons, List.dropWhile_cons]; split <;> simp [ih]
theorem tw_le (p : UInt8 → Bool) (l : List UInt8) : (l.takeWhile p).length ≤ l.length := by
  have := congrArg List.length (take_tw p l)
  rw [List.length_take] at this; omega
theorem ext_take (l : List UInt8) (n : Nat) : (ByteArray.mk l.toArray).extract 0 n = ⟨(l.take n).toArray⟩ := by
  apply ByteArray.ext; simp [ByteArray.data_extract]
theorem ext_drop (l : List UInt8) (n : Nat) : (ByteArray.mk l.toArray).extract n l.length = ⟨(l.drop n).toArray⟩ := by
  apply ByteArray.ext; simp [ByteArray.data_extract, List.take_of_length_le]
theorem kept_bytes (w : World) (e : TypeId) (s : ByteArray) : Kept w (Lib.bytesWorld w e s) :=
  ⟨rfl, rfl, by rw [Lib.bytesWorld_size]; omega, fun k hk => Lib.bytesWorld_at_old w e s k hk⟩
set_option maxHeartbeats 1000000 in
theorem take_any (g : Nat) (p : UInt8 → Bool) (hpre : ∀ (l : List UInt8) (w : World), l.length ≤ 1000000000 → Calls Tryd.prog 50 #[.string ⟨l.toArray⟩, .func (.func g) #[] #[]] w fun e w' => e = .returned (.int .i64 (l.takeWhile p).length) ∧ w = w') (l : List UInt8) (bk : Nat) (w : World) (h : Rd bk l w) (hl : l.length ≤ 1000) :
    Calls Tryd.prog 55 #[.pointer (some ⟨bk, 0, none⟩), .func (.func g) #[] #[]] w (StepPost (.string ⟨(l.takeWhile p).toArray⟩) (l.dropWhile p) bk w) := by
  have hc := h.cell
  have hf := h.fro
  have H := Lib.hid h; clear h
  have HP := Lib.hid hpre; clear hpre
  have h1 := take_tw p l
  have h2 := drop_tw p l
  have h3 := tw_le p l
  generalize hT : l.takeWhile p = T at *
  generalize hD : l.dropWhile p = D at *
  have HT := Lib.hid hT; clear hT hD
  have x1 := ext_take l T.length
  have x2 := ext_drop l T.length
  rw [h1] at x1
  rw [h2] at x2
  clear h1 h2
  have hcv : ∀ W, (convert 9 66 (.string ⟨T.toArray⟩)).run Tryd.prog W = .ok (.slice (some ⟨W.heap.size, 0, none⟩) T.length (grownCap W T.length 0 5)) (Lib.bytesWorld W 5 ⟨T.toArray⟩) := fun W => Lib.run_convert_string_bytes W _ _ _ _ Tryd.underlying9 Tryd.underlying66 Tryd.underlying5
  have kp := kept_bytes w 5 ⟨T.toArray⟩
  have hc1 := (kp.cell (a := ⟨bk, 0, none⟩) H.out.lt).trans hc
  have hf1 := (kp.frozen (a := ⟨bk, 0, none⟩) H.out.lt).trans hf
  have ho := (Only.of_kept kp H.out.lt).trans (Only.set bk (Lib.bytesWorld w 5 ⟨T.toArray⟩) (.string ⟨D.toArray⟩))
  have hcb : ∀ cap, (convert 66 9 (.slice (some ⟨w.heap.size, 0, none⟩) T.length cap)).run Tryd.prog ((Lib.bytesWorld w 5 ⟨T.toArray⟩).setCell ⟨bk, 0, none⟩ (.string ⟨D.toArray⟩)) = .ok (.string ⟨T.toArray⟩) ((Lib.bytesWorld w 5 ⟨T.toArray⟩).setCell ⟨bk, 0, none⟩ (.string ⟨D.toArray⟩)) := by
    intro cap
    refine run_convert_bytes_back _ _ _ _ _ cap T Tryd.underlying66 Tryd.underlying5 Tryd.underlying9 ?_
    intro j hj
    have hne : w.heap.size ≠ bk := by have := H.out.lt; omega
    have hq : ((Lib.bytesWorld w 5 ⟨T.toArray⟩).setCell ⟨bk, 0, none⟩ (.string ⟨D.toArray⟩)).heap[w.heap.size]? = (Lib.bytesWorld w 5 ⟨T.toArray⟩).heap[w.heap.size]? := Below.heap_setCell _ _ _ _ hne
    have := Lib.bytesWorld_cell w 5 ⟨T.toArray⟩ j hj
    unfold World.cell? at this ⊢
    rw [show (Addr.add ⟨w.heap.size, 0, none⟩ j) = ⟨w.heap.size, j, none⟩ by unfold Addr.add; split <;> simp_all, hq, this]
    simp [hj]
  have O := Lib.hid ho; clear ho
  have R := Lib.hid (H.out.step O.out (World.cell?_setCell_same _ _ _ hc1))
  go_enter Tryd.func55, Tryd.ntmps55
  go_wp2_with fail
  refine (HP.out l _ (by omega)).mono ?_
  rintro e w1 ⟨rfl, rfl⟩
  rw [HT.out]
  go_wp2
  go_ret
  exact ⟨rfl, O.out, R.out⟩
theorem take_ltr (l : List UInt8) (bk : Nat) (w : World) (h : Rd bk l w) (hl : l.length ≤ 1000) :
    Calls Tryd.prog 55 #[.pointer (some ⟨bk, 0, none⟩), .func (.func 37) #[] #[]] w (StepPost (.string ⟨(l.takeWhile ltr).toArray⟩) (l.dropWhile ltr) bk w) := take_any _ ltr prefix_ltr l bk w h hl
theorem take_dgt (l : List UInt8) (bk : Nat) (w : World) (h : Rd bk l w) (hl : l.length ≤ 1000) :
    Calls Tryd.prog 55 #[.pointer (some ⟨bk, 0, none⟩), .func (.func 52) #[] #[]] w (StepPost (.string ⟨(l.takeWhile dgt).toArray⟩) (l.dropWhile dgt) bk w) := take_any _ dgt prefix_dgt l bk w h hl
theorem take_nmb (l : List UInt8) (bk : Nat) (w : World) (h : Rd bk l w) (hl : l.length ≤ 1000) :
    Calls Tryd.prog 55 #[.pointer (some ⟨bk, 0, none⟩), .func (.func 43) #[] #[]] w (StepPost (.string ⟨(l.takeWhile nmb).toArray⟩) (l.dropWhile nmb) bk w) := take_any _ nmb prefix_nmb l bk w h hl
end Go.Proofs.YtomnjdammfiadaaDoor
