/- Several texts of this seat, one behind the other. -/
import Derived.Test.YtflhmgnhjnaiiaaGreatDoorCivA
import Derived.Lib.ItoaNum
import Derived.Lib.Repeat
import Derived.Test.YtflhmgnhjnaiiaaGreatDoorShelf
import Derived.Test.YtflhmgnhjnaiiaaGreatDoorKept
import Derived.Lib.ItoaMem
import Derived.Deep.RegionHeld3
import Derived.WalkLawsBesides
set_option linter.unusedSimpArgs false
set_option linter.unusedVariables false
/- Plain mathematics of seconds and of their texts (no program in it). -/
namespace Go.Proofs.YtflhmgnhjnaiiaaGreatDoor.Civ

/-! Digits. -/
def dig : Nat → Nat → List UInt8
  | 0, _ => []
  | k + 1, n => dig k (n / 10) ++ [UInt8.ofNat (48 + n % 10)]
theorem dig_length (k n : Nat) : (dig k n).length = k := by
  induction k generalizing n with
  | zero => rfl
  | succ k ih => simp [dig, ih]
theorem rep_eq (k : Nat) : Lib.repeatL [48] k = List.replicate k 48 := by
  induction k with
  | zero => rfl
  | succ k ih => simp [Lib.repeatL, ih, List.replicate_succ]
theorem dig_zero (k : Nat) : dig k 0 = List.replicate k 48 := by
  induction k with
  | zero => rfl
  | succ k ih => rw [dig, Nat.zero_div, ih, List.replicate_succ']; rfl
theorem dig_pad (k n : Nat) (hk : 1 ≤ k) (h : n < 10 ^ k) : Lib.repeatL [48] (k - (Lib.decDigits n).length) ++ Lib.decDigits n = dig k n := by
  rw [rep_eq]
  induction k generalizing n with
  | zero => omega
  | succ k ih =>
    by_cases h10 : n < 10
    · rw [Lib.decDigits_one h10, dig, Nat.div_eq_of_lt h10, dig_zero, Nat.mod_eq_of_lt h10]
      simp
    · have hlt : n / 10 < 10 ^ k := by rw [Nat.pow_succ] at h; omega
      have hk1 : 1 ≤ k := by
        rcases k with _ | k
        · simp at hlt; omega
        · omega
      have := ih (n / 10) hk1 hlt
      rw [Lib.decDigits, dif_neg h10, dig, ← this]
      simp only [List.length_append, List.length_cons, List.length_nil, List.append_assoc]
      rw [show k + 1 - ((Lib.decDigits (n / 10)).length + (0 + 1)) = k - (Lib.decDigits (n / 10)).length by omega]
theorem dec_len (k n : Nat) (hk : 1 ≤ k) (h : n < 10 ^ k) : (Lib.decDigits n).length ≤ k := by
  have := congrArg List.length (dig_pad k n hk h)
  rw [List.length_append, dig_length] at this
  omega
/-- One more digit ahead. -/
theorem dig_front (k n : Nat) : dig (k + 1) n = UInt8.ofNat (48 + n / 10 ^ k % 10) :: dig k n := by
  induction k generalizing n with
  | zero => simp [dig]
  | succ k ih => rw [dig, ih, dig, Nat.div_div_eq_div_mul, Nat.pow_succ, Nat.mul_comm 10]; rfl
end Go.Proofs.YtflhmgnhjnaiiaaGreatDoor.Civ
/- Contracts of package stamp, call by call: digits, a day and time's second, a second's day and time. -/
namespace Go.Proofs.YtflhmgnhjnaiiaaGreatDoor.Sm
open Go.ChangeShapes Go.WideShapes Go.ChangeAt Go.RowKit
open Civ
def Tab (w : World) : Prop := Lib.TabIs Tryz.prog w "internal/strconv.uint64pow10" .u64 Lib.pow10Tab
theorem tab_of {w w' : World} (h : Kept w w') (t : Tab w) : Tab w' := Kept.tab h t
/-! Times, and the parts of a second. -/
def tmB (h i s : Int) : Bool := decide (0 ≤ h ∧ h ≤ 23 ∧ 0 ≤ i ∧ i ≤ 59 ∧ 0 ≤ s ∧ s ≤ 59)
theorem isTime_any (h i s : Int) (w : World) :
    Calls Tryz.prog 156 #[.int .i64 h, .int .i64 i, .int .i64 s] w fun e w' => e = .returned (.bool (tmB h i s)) ∧ w = w' := by
  go_enter Tryz.func156, Tryz.ntmps156
  go_wp2
  all_goals (go_ret; refine ⟨ret_bool ?_, rfl⟩; first | (simp [tmB, *]; done) | (simp [tmB, *]; intros; omega))
theorem tmod86400 (n : Int) : -86400 < n.tmod 86400 ∧ n.tmod 86400 < 86400 ∧ n = 86400 * n.tdiv 86400 + n.tmod 86400 :=
  ⟨by have h := Int.tmod_lt_of_pos (-n) (show (0 : Int) < 86400 by omega); rw [Int.neg_tmod] at h; omega, Int.tmod_lt_of_pos n (by omega), (Int.mul_tdiv_add_tmod n 86400).symm⟩
/-! A day and time, its second, and back. -/
abbrev civ (y m d h i s : Int) : Value := .agg #[.int .i64 y, .int .i64 m, .int .i64 d, .int .i64 h, .int .i64 i, .int .i64 s]
def sec (y m d h i s : Int) : Int := 86400 * ord y m d + 3600 * h + 60 * i + s
theorem tm_bd {h i s : Int} (k : tmB h i s = true) : 0 ≤ h ∧ h ≤ 23 ∧ 0 ≤ i ∧ i ≤ 59 ∧ 0 ≤ s ∧ s ≤ 59 := by simpa [tmB] using k
set_option maxHeartbeats 1000000 in
theorem of_yes (y m d h i s : Int) (w : World) (k : okP y m d) (kt : tmB h i s = true) :
    Calls Tryz.prog 150 #[civ y m d h i s] w fun e w' => e = .returned (.tuple #[.int .i64 (sec y m d h i s), .int .i64 0]) ∧ Kept w w' := by
  obtain ⟨a1, a2, a3, a4, a5, a6⟩ := tm_bd kt
  obtain ⟨o1, o2⟩ := ord_bd k
  have K := Lib.hid k; clear k
  have KT := Lib.hid kt; clear kt
  go_enter Tryz.func150, Tryz.ntmps150
  go_wp2_with fail
  refine (ord_yes y m d _ K.out).mono ?_
  rintro e w1 ⟨rfl, g1⟩
  have k1 := Kept.of_grown g1; clear g1
  have c3 := k1.new 3 rfl
  have c4 := k1.new 4 rfl
  have c5 := k1.new 5 rfl
  have kb := k1.back; clear k1
  go_wp2_with fail
  refine (isTime_any h i s _).mono ?_
  rintro e w2 ⟨rfl, rfl⟩
  rw [KT.out]
  go_wp2
  go_ret2
  exact ⟨by rw [show sec y m d h i s = ord y m d * 86400 + h * 3600 + i * 60 + s by unfold sec; omega]; rfl, kb⟩
set_option maxHeartbeats 1000000 in
theorem of_not (y m d h i s : Int) (w : World) (k : ¬ (okP y m d ∧ tmB h i s = true)) :
    Calls Tryz.prog 150 #[civ y m d h i s] w fun e w' => e = .returned (.tuple #[.int .i64 0, .int .i64 1]) ∧ Kept w w' := by
  by_cases ko : okP y m d
  · have kt : tmB h i s = false := by simpa [ko] using k
    clear k
    have K := Lib.hid ko; clear ko
    have KT := Lib.hid kt; clear kt
    go_enter Tryz.func150, Tryz.ntmps150
    go_wp2_with fail
    refine (ord_yes y m d _ K.out).mono ?_
    rintro e w1 ⟨rfl, g1⟩
    have k1 := Kept.of_grown g1; clear g1
    have c3 := k1.new 3 rfl
    have c4 := k1.new 4 rfl
    have c5 := k1.new 5 rfl
    have kb := k1.back; clear k1
    go_wp2_with fail
    refine (isTime_any h i s _).mono ?_
    rintro e w2 ⟨rfl, rfl⟩
    rw [KT.out]
    go_wp2
    go_ret2
    exact ⟨rfl, kb⟩
  · clear k
    have K := Lib.hid ko; clear ko
    go_enter Tryz.func150, Tryz.ntmps150
    go_wp2_with fail
    refine (ord_not y m d _ K.out).mono ?_
    rintro e w1 ⟨rfl, g1⟩
    have kb := (Kept.of_grown g1).back; clear g1
    go_wp2
    go_ret2
    exact ⟨rfl, kb⟩
/-- whether a day and time may be -/
noncomputable def mayB (y m d h i s : Int) : Bool := okB y m d && tmB h i s
open Classical in
noncomputable def ymd (n : Int) : Int × Int × Int := if h : ∃ x : Int × Int × Int, okP x.1 x.2.1 x.2.2 ∧ ord x.1 x.2.1 x.2.2 = n then h.choose else (0, 0, 0)
noncomputable def yr (n : Int) : Int := (ymd n).1
noncomputable def mo (n : Int) : Int := (ymd n).2.1
noncomputable def dy (n : Int) : Int := (ymd n).2.2
theorem ymd_of {n y m d : Int} (h : okP y m d) (e : ord y m d = n) : yr n = y ∧ mo n = m ∧ dy n = d := by
  have hx : ∃ x : Int × Int × Int, okP x.1 x.2.1 x.2.2 ∧ ord x.1 x.2.1 x.2.2 = n := ⟨(y, m, d), h, e⟩
  have hc := hx.choose_spec
  have : ymd n = hx.choose := by unfold ymd; rw [dif_pos hx]
  unfold yr mo dy
  rw [this]
  exact ord_inj hc.1 h (hc.2.trans e.symm)
/-- that a number's day is told by the three -/
def Day (n : Int) : Prop := okP (yr n) (mo n) (dy n) ∧ ord (yr n) (mo n) (dy n) = n
def DatePost' (n : Int) (w : World) (e : Ending) (w' : World) : Prop := Day n ∧ e = .returned (.tuple #[.int .i64 (yr n), .int .i64 (mo n), .int .i64 (dy n), .int .i64 0]) ∧ Kept w w'
theorem datePost {n : Int} {w : World} {e : Ending} {w' : World} (h : DatePost n w e w') : DatePost' n w e w' := by
  obtain ⟨y, m, d, rfl, h1, h2, h3⟩ := h
  obtain ⟨rfl, rfl, rfl⟩ := ymd_of h1 h2
  exact ⟨⟨h1, h2⟩, rfl, Kept.of_grown h3⟩

/-- a second's day and time -/
noncomputable abbrev cv (t : Int) : Value := civ (yr (t / 86400)) (mo (t / 86400)) (dy (t / 86400)) (t % 86400 / 3600) (t % 3600 / 60) (t % 60)
def AtPost (t : Int) (w : World) (e : Ending) (w' : World) : Prop := Day (t / 86400) ∧ e = .returned (.tuple #[cv t, .int .i64 0]) ∧ Kept w w'
def inCal (t : Int) : Prop := -62135596800 ≤ t ∧ t ≤ 253402300799
end Go.Proofs.YtflhmgnhjnaiiaaGreatDoor.Sm
/- Contracts of package stamp: a second's text. -/
namespace Go.Proofs.YtflhmgnhjnaiiaaGreatDoor.Sm
open Go.ChangeShapes Go.WideShapes Go.ChangeAt Go.RowKit
open Civ

/-- the time of a day -/
def clk (h i s : Nat) : List UInt8 := dig 2 h ++ [58] ++ dig 2 i ++ [58] ++ dig 2 s
theorem clk_eq (h i s : Nat) : (⟨(dig 2 h).toArray⟩ ++ ⟨#[58]⟩ ++ ⟨(dig 2 i).toArray⟩ ++ ⟨#[58]⟩ ++ ⟨(dig 2 s).toArray⟩ : ByteArray) = ⟨(clk h i s).toArray⟩ := by
  apply ByteArray.ext; simp [ByteArray.data_append, clk]
theorem clk_length (h i s : Nat) : (clk h i s).length = 8 := by simp [clk, dig_length]
/-- how a second is written -/
noncomputable def txt (t : Int) : List UInt8 :=
  dig 4 (yr (t / 86400)).toNat ++ [45] ++ dig 2 (mo (t / 86400)).toNat ++ [45] ++ dig 2 (dy (t / 86400)).toNat ++ [84] ++ clk (t % 86400 / 3600).toNat (t % 3600 / 60).toNat (t % 60).toNat ++ [90]
theorem txt_length (t : Int) : (txt t).length = 20 := by simp [txt, dig_length, clk_length]
theorem txt_eq (y m d : Nat) (c : List UInt8) : (⟨(dig 4 y).toArray⟩ ++ ⟨#[45]⟩ ++ ⟨(dig 2 m).toArray⟩ ++ ⟨#[45]⟩ ++ ⟨(dig 2 d).toArray⟩ ++ ⟨#[84]⟩ ++ ⟨c.toArray⟩ ++ ⟨#[90]⟩ : ByteArray) = ⟨(dig 4 y ++ [45] ++ dig 2 m ++ [45] ++ dig 2 d ++ [84] ++ c ++ [90]).toArray⟩ := by
  apply ByteArray.ext; simp [ByteArray.data_append]
/-- six cells, and the table, read as they did -/
theorem held6 {W x x' : World} {b : Nat} {y m d h i s : Int} (k : Kept x x') (H : Kept W x ∧ x.cell? ⟨b, 0, none⟩ = some (.int .i64 y) ∧ x.cell? ⟨b, 1, none⟩ = some (.int .i64 m) ∧ x.cell? ⟨b, 2, none⟩ = some (.int .i64 d) ∧ x.cell? ⟨b, 3, none⟩ = some (.int .i64 h) ∧ x.cell? ⟨b, 4, none⟩ = some (.int .i64 i) ∧ x.cell? ⟨b, 5, none⟩ = some (.int .i64 s) ∧ Tab x) (hb : b < W.heap.size) :
    Kept W x' ∧ x'.cell? ⟨b, 0, none⟩ = some (.int .i64 y) ∧ x'.cell? ⟨b, 1, none⟩ = some (.int .i64 m) ∧ x'.cell? ⟨b, 2, none⟩ = some (.int .i64 d) ∧ x'.cell? ⟨b, 3, none⟩ = some (.int .i64 h) ∧ x'.cell? ⟨b, 4, none⟩ = some (.int .i64 i) ∧ x'.cell? ⟨b, 5, none⟩ = some (.int .i64 s) ∧ Tab x' := by
  obtain ⟨h0, h1, h2, h3, h4, h5, h6, h7⟩ := H
  have hb' : b < x.heap.size := Nat.lt_of_lt_of_le hb h0.size
  exact ⟨h0.trans k, (k.cell (a := ⟨b, 0, none⟩) hb').trans h1, (k.cell (a := ⟨b, 1, none⟩) hb').trans h2, (k.cell (a := ⟨b, 2, none⟩) hb').trans h3, (k.cell (a := ⟨b, 3, none⟩) hb').trans h4, (k.cell (a := ⟨b, 4, none⟩) hb').trans h5, (k.cell (a := ⟨b, 5, none⟩) hb').trans h6, tab_of k h7⟩
def TextPost (t : Int) (w : World) (e : Ending) (w' : World) : Prop := Day (t / 86400) ∧ e = .returned (.tuple #[.string ⟨(txt t).toArray⟩, .int .i64 0]) ∧ Kept w w'
theorem day_bd {n : Int} (h : Day n) : 1 ≤ yr n ∧ yr n ≤ 9999 ∧ 1 ≤ mo n ∧ mo n ≤ 12 ∧ 1 ≤ dy n ∧ dy n ≤ 31 := by
  obtain ⟨⟨h1, h2, h3, h4⟩, _⟩ := h
  have := ok_month h3 h4
  have := dim_bd (yr n) (mo n)
  omega
end Go.Proofs.YtflhmgnhjnaiiaaGreatDoor.Sm
/- Contracts of package stamp: the reader's signs and numbers. -/
namespace Go.Proofs.YtflhmgnhjnaiiaaGreatDoor.Sm
open Go.ChangeShapes Go.WideShapes Go.ChangeAt Go.RowKit
open Civ
theorem extract_mk (l : List UInt8) (a b : Nat) : (ByteArray.mk l.toArray).extract a b = ⟨((l.drop a).take (b - a)).toArray⟩ := by
  apply ByteArray.ext
  simp [ByteArray.data_extract, List.take_drop]
/-- nothing has turned but a reader's text (blocks may have come behind) -/
structure Only (bk : Nat) (w w' : World) : Prop where
  os : w'.os = w.os
  output : w'.output = w.output
  size : w.heap.size ≤ w'.heap.size
  block : ∀ k, k < w.heap.size → k ≠ bk → w'.heap[k]? = w.heap[k]?
  frozen : w'.frozen? ⟨bk, 0, none⟩ = w.frozen? ⟨bk, 0, none⟩
  tape : w'.tape = w.tape
theorem Only.refl (bk : Nat) (w : World) : Only bk w w := ⟨rfl, rfl, Nat.le_refl _, fun _ _ _ => rfl, rfl, rfl⟩
theorem Only.trans {bk : Nat} {a b c : World} (h : Only bk a b) (k : Only bk b c) : Only bk a c :=
  ⟨k.os.trans h.os, k.output.trans h.output, Nat.le_trans h.size k.size, fun i hi hn => (k.block i (Nat.lt_of_lt_of_le hi h.size) hn).trans (h.block i hi hn), k.frozen.trans h.frozen, k.tape.trans h.tape⟩
theorem Only.set (bk : Nat) (w : World) (v : Value) : Only bk w (w.setCell ⟨bk, 0, none⟩ v) :=
  ⟨rfl, rfl, by simp [World.setCell], fun k hk hn => Below.heap_setCell _ _ _ _ hn, World.frozen?_setCell _ _ _ _, rfl⟩

def rsign (those : List UInt8) : List UInt8 → Option (UInt8 × List UInt8)
  | [] => none
  | b :: r => if those.contains b then some (b, r) else none
theorem rsign_cons (those : List UInt8) (c : UInt8) (r : List UInt8) : rsign those (c :: r) = if those.contains c = true then some (c, r) else none := rfl
abbrev faultV : Value := .iface 187 (.agg #[.int .i64 2])
def SignPost (o : Option (UInt8 × List UInt8)) (bk : Nat) (w : World) (e : Ending) (w' : World) : Prop :=
  match o with
  | none => e = .panicked [{ v := faultV, recovered := false }] ∧ Only bk w w'
  | some (c, r) => e = .returned (.int .u8 c.toNat) ∧ Only bk w w' ∧ w'.cell? ⟨bk, 0, none⟩ = some (.string ⟨r.toArray⟩)
theorem idx_ge (l : List UInt8) (c : UInt8) : -1 ≤ Lib.indexByte l c ∧ (l.contains c = true → 0 ≤ Lib.indexByte l c) ∧ (l.contains c = false → Lib.indexByte l c = -1) := by
  induction l with
  | nil => simp [Lib.indexByte]
  | cons b l ih =>
    obtain ⟨i1, i2, i3⟩ := ih
    simp only [Lib.indexByte, List.contains_cons]
    by_cases hb : b = c
    · subst hb; simp
    · have hb' : (b == c) = false := by simpa using hb
      have hc' : (c == b) = false := by simpa using fun h : c = b => hb h.symm
      rw [hb', hc']
      simp only [Bool.false_or, Bool.false_eq_true, if_false]
      cases hl : l.contains c with
      | true => have := i2 hl; rw [if_neg (by simp; omega)]; refine ⟨by omega, fun _ => by omega, fun h => by simp at h⟩
      | false => have := i3 hl; rw [if_pos (by simp; omega)]; refine ⟨by omega, fun h => by simp at h, fun _ => rfl⟩
theorem index_any (those : List UInt8) (c : UInt8) (w : World) :
    Calls Tryz.prog 61 #[.string ⟨those.toArray⟩, .int .u8 c.toNat] w fun e w' => e = .returned (.int .i64 (Lib.indexByte those c)) ∧ w = w' := by
  refine (Tryz.strings_IndexByte _ _ _).mono ?_
  rintro e w1 ⟨rfl, rfl⟩
  exact ⟨by simp, rfl⟩
theorem sign_nil (those : List UInt8) (bk : Nat) (w : World) (hc : w.cell? ⟨bk, 0, none⟩ = some (.string ⟨([] : List UInt8).toArray⟩)) :
    Calls Tryz.prog 158 #[.pointer (some ⟨bk, 0, none⟩), .string ⟨those.toArray⟩] w (SignPost none bk w) := by
  go_enter Tryz.func158, Tryz.ntmps158
  go_wp2
  exact ⟨rfl, rfl, Only.refl _ _⟩
theorem at0 (c : UInt8) (r : List UInt8) (h : 0 < (ByteArray.mk (c :: r).toArray).size) : (ByteArray.mk (c :: r).toArray)[0]'h = c := rfl
theorem sign_no (those : List UInt8) (c : UInt8) (r : List UInt8) (bk : Nat) (w : World) (hc : w.cell? ⟨bk, 0, none⟩ = some (.string ⟨(c :: r).toArray⟩)) (hn : those.contains c = false) :
    Calls Tryz.prog 158 #[.pointer (some ⟨bk, 0, none⟩), .string ⟨those.toArray⟩] w (SignPost none bk w) := by
  have hi : Lib.indexByte those c = -1 := (idx_ge those c).2.2 hn
  clear hn
  go_enter Tryz.func158, Tryz.ntmps158
  go_wp2_with fail
  rw [at0]
  refine (index_any _ _ _).mono ?_
  rintro e w1 ⟨rfl, rfl⟩
  go_wp2
  exact ⟨rfl, rfl, Only.refl _ _⟩
theorem sign_yes (those : List UInt8) (c : UInt8) (r : List UInt8) (bk : Nat) (w : World) (hc : w.cell? ⟨bk, 0, none⟩ = some (.string ⟨(c :: r).toArray⟩)) (hf : w.frozen? ⟨bk, 0, none⟩ = false) (hn : those.contains c = true) :
    Calls Tryz.prog 158 #[.pointer (some ⟨bk, 0, none⟩), .string ⟨those.toArray⟩] w (SignPost (some (c, r)) bk w) := by
  have hi : ¬ Lib.indexByte those c < 0 := by have := (idx_ge those c).2.1 hn; omega
  clear hn
  go_enter Tryz.func158, Tryz.ntmps158
  go_wp2_with fail
  rw [at0]
  refine (index_any _ _ _).mono ?_
  rintro e w1 ⟨rfl, rfl⟩
  have hx : (ByteArray.mk (c :: r).toArray).extract 1 (r.length + 1) = ⟨r.toArray⟩ := by rw [extract_mk]; simp
  go_wp2
  go_ret
  exact ⟨rfl, Only.set _ _ _, World.cell?_setCell_same _ _ _ hc⟩
theorem sign_any (those l : List UInt8) (bk : Nat) (w : World) (hc : w.cell? ⟨bk, 0, none⟩ = some (.string ⟨l.toArray⟩)) (hf : w.frozen? ⟨bk, 0, none⟩ = false) :
    Calls Tryz.prog 158 #[.pointer (some ⟨bk, 0, none⟩), .string ⟨those.toArray⟩] w (SignPost (rsign those l) bk w) := by
  cases l with
  | nil => exact sign_nil those bk w hc
  | cons c r =>
    cases h : those.contains c with
    | false => rw [show rsign those (c :: r) = none by rw [rsign_cons, h]; rfl]; exact sign_no those c r bk w hc h
    | true => rw [show rsign those (c :: r) = some (c, r) by rw [rsign_cons, h]; rfl]; exact sign_yes those c r bk w hc hf h
/-- just so many digits -/
def rnum : Nat → Int → List UInt8 → Option (Int × List UInt8)
  | 0, a, l => some (a, l)
  | k + 1, a, l => match rsign [48, 49, 50, 51, 52, 53, 54, 55, 56, 57] l with
    | none => none
    | some (c, r) => rnum k (a * 10 + ((c.toNat : Int) - 48)) r
theorem digit_bd {c : UInt8} (h : [48, 49, 50, 51, 52, 53, 54, 55, 56, 57].contains c = true) : 48 ≤ c.toNat ∧ c.toNat ≤ 57 := by
  simp at h
  rcases h with rfl | rfl | rfl | rfl | rfl | rfl | rfl | rfl | rfl | rfl <;> decide
theorem rsign_some {those l r : List UInt8} {c : UInt8} (h : rsign those l = some (c, r)) : l = c :: r ∧ those.contains c = true := by
  cases l with
  | nil => cases h
  | cons b l =>
    rw [rsign_cons] at h
    cases hb : those.contains b with
    | true => rw [hb] at h; cases h; exact ⟨rfl, hb⟩
    | false => rw [hb] at h; cases h
def NumPost (o : Option (Int × List UInt8)) (bk : Nat) (w : World) (e : Ending) (w' : World) : Prop :=
  match o with
  | none => e = .panicked [{ v := faultV, recovered := false }] ∧ Only bk w w'
  | some (n, r) => e = .returned (.int .i64 n) ∧ Only bk w w' ∧ w'.cell? ⟨bk, 0, none⟩ = some (.string ⟨r.toArray⟩)
/-- within a number: what is left of it, what has been reckoned, what is left of the text -/
def NumIn (k : Nat) (l : List UInt8) (bk : Nat) (w : World) (a i : Value) (x : World) : Prop :=
  ∃ (j : Nat) (n : Int) (r : List UInt8), j ≤ k ∧ i = .int .i64 j ∧ a = .int .i64 n ∧ 0 ≤ n ∧ n < 10 ^ j ∧ rnum k 0 l = rnum (k - j) n r ∧ Only bk w x ∧ x.cell? ⟨bk, 0, none⟩ = some (.string ⟨r.toArray⟩)
set_option maxHeartbeats 1000000 in
theorem num_any (k : Nat) (hk : k ≤ 4) (l : List UInt8) (bk : Nat) (w : World) (hc : w.cell? ⟨bk, 0, none⟩ = some (.string ⟨l.toArray⟩)) (hf : w.frozen? ⟨bk, 0, none⟩ = false) :
    Calls Tryz.prog 157 #[.pointer (some ⟨bk, 0, none⟩), .int .i64 k] w (NumPost (rnum k 0 l) bk w) := by
  go_enter Tryz.func157, Tryz.ntmps157
  go_wp2_with fail
  go_loopw [5, 7] (fun a i x => NumIn k l bk w a i x) (fun _ i _ => k - (intOf i).toNat)
  case atStart => exact ⟨0, 0, l, Nat.zero_le _, rfl, rfl, by omega, by omega, rfl, Only.refl _ _, hc⟩
  case round =>
    rename_i wx
    obtain ⟨j, n, r, hj, rfl, rfl, n0, n1, hr, ho, hcx⟩ := hrel
    have hfx := ho.frozen.trans hf
    have n2 : n < 10000 := by
      have : (10 : Int) ^ j ≤ 10 ^ 4 := by exact_mod_cast Nat.pow_le_pow_right (show 0 < 10 by omega) (show j ≤ 4 by omega)
      omega
    have HR := Lib.hid hr; clear hr
    have N1 := Lib.hid n1; clear n1
    by_cases hlt : j < k
    · go_wp2_with fail
      refine (sign_any [48, 49, 50, 51, 52, 53, 54, 55, 56, 57] r bk _ hcx hfx).mono ?_
      intro e w2 hp
      cases hs : rsign [48, 49, 50, 51, 52, 53, 54, 55, 56, 57] r with
      | none =>
        rw [hs] at hp
        obtain ⟨rfl, ho2⟩ := hp
        have hn : rnum k 0 l = none := by
          rw [HR.out, show k - j = (k - j - 1) + 1 by omega, rnum, hs]
        refine ⟨rfl, ?_⟩
        show NumPost (rnum k 0 l) bk w _ _
        rw [hn]
        exact ⟨rfl, ho.trans ho2⟩
      | some p =>
        obtain ⟨c, r2⟩ := p
        rw [hs] at hp
        obtain ⟨rfl, ho2, hc2⟩ := hp
        obtain ⟨d1, d2⟩ := digit_bd (rsign_some hs).2
        have hnn : rnum k 0 l = rnum (k - (j + 1)) (n * 10 + ((c.toNat : Int) - 48)) r2 := by
          rw [HR.out, show k - j = (k - (j + 1)) + 1 by omega, rnum, hs]
        have HN := Lib.hid hnn; clear hnn hs
        go_wp2
        go_roundw
        case rel => exact ⟨j + 1, n * 10 + ((c.toNat : Int) - 48), r2, by omega, by go_num, by go_num, by omega, by have := N1.out; rw [Int.pow_succ]; omega, HN.out, ho.trans ho2, hc2⟩
        case measure => simp [intOf]; omega
    · have hjk : j = k := by omega
      go_wp2
      go_ret
      have := HR.out
      rw [hjk, Nat.sub_self, rnum] at this
      rw [this]
      exact ⟨rfl, ho, hcx⟩
theorem num_4 (l : List UInt8) (bk : Nat) (w : World) (hc : w.cell? ⟨bk, 0, none⟩ = some (.string ⟨l.toArray⟩)) (hf : w.frozen? ⟨bk, 0, none⟩ = false) :
    Calls Tryz.prog 157 #[.pointer (some ⟨bk, 0, none⟩), .int .i64 4] w (NumPost (rnum 4 0 l) bk w) := num_any 4 (by omega) l bk w hc hf
theorem num_2 (l : List UInt8) (bk : Nat) (w : World) (hc : w.cell? ⟨bk, 0, none⟩ = some (.string ⟨l.toArray⟩)) (hf : w.frozen? ⟨bk, 0, none⟩ = false) :
    Calls Tryz.prog 157 #[.pointer (some ⟨bk, 0, none⟩), .int .i64 2] w (NumPost (rnum 2 0 l) bk w) := num_any 2 (by omega) l bk w hc hf
theorem num_1 (l : List UInt8) (bk : Nat) (w : World) (hc : w.cell? ⟨bk, 0, none⟩ = some (.string ⟨l.toArray⟩)) (hf : w.frozen? ⟨bk, 0, none⟩ = false) :
    Calls Tryz.prog 157 #[.pointer (some ⟨bk, 0, none⟩), .int .i64 1] w (NumPost (rnum 1 0 l) bk w) := num_any 1 (by omega) l bk w hc hf
end Go.Proofs.YtflhmgnhjnaiiaaGreatDoor.Sm
/- Contracts of package stamp: the reader takes a day and time. -/
namespace Go.Proofs.YtflhmgnhjnaiiaaGreatDoor.Sm
open Go.ChangeShapes Go.WideShapes Go.ChangeAt Go.RowKit
open Civ
/-- within a reading: only the reader's text has turned; a block of the call's own holds what it holds; what is left of the text -/
def Cst (bk n : Nat) (w : World) (cs : Array Value) (l : List UInt8) (x : World) : Prop :=
  Only bk w x ∧ x.heap[n]? = some (.cells cs 182) ∧ x.cell? ⟨bk, 0, none⟩ = some (.string ⟨l.toArray⟩) ∧ x.frozen? ⟨bk, 0, none⟩ = false
theorem Only.alloc (bk : Nat) (w : World) (o : Obj) (h : bk < w.heap.size) : Only bk w (w.alloc o) :=
  ⟨rfl, rfl, by simp, fun k hk _ => Below.heap_alloc _ _ _ hk, by unfold World.frozen?; rw [Below.heap_alloc _ _ _ h], rfl⟩
theorem Cst.start {bk : Nat} {w : World} (cs : Array Value) {l : List UInt8} (hb : bk < w.heap.size) (hc : w.cell? ⟨bk, 0, none⟩ = some (.string ⟨l.toArray⟩)) (hf : w.frozen? ⟨bk, 0, none⟩ = false) :
    Cst bk w.heap.size w cs l (w.alloc (.cells cs 182)) :=
  ⟨Only.alloc _ _ _ hb, by show (w.heap.push _)[w.heap.size]? = _; simp, by unfold World.cell?; rw [Below.heap_alloc _ _ _ hb]; exact hc, by unfold World.frozen?; rw [Below.heap_alloc _ _ _ hb]; exact hf⟩
theorem Cst.call {bk n : Nat} {w x x' : World} {cs : Array Value} {l r : List UInt8} (h : Cst bk n w cs l x) (hn : n ≠ bk) (ho : Only bk x x') (hc : x'.cell? ⟨bk, 0, none⟩ = some (.string ⟨r.toArray⟩)) : Cst bk n w cs r x' := by
  obtain ⟨h1, h2, h3, h4⟩ := h
  have hlt : n < x.heap.size := by
    by_cases hl : n < x.heap.size
    · exact hl
    · rw [Array.getElem?_eq_none (by omega)] at h2; cases h2
  exact ⟨h1.trans ho, (ho.block n hlt hn).trans h2, hc, ho.frozen.trans h4⟩
theorem Cst.cell {bk n : Nat} {w x : World} {cs : Array Value} {l : List UInt8} (h : Cst bk n w cs l x) (j : Nat) {v : Value} (hv : cs[j]? = some v) : x.cell? ⟨n, j, none⟩ = some v := by
  simp [World.cell?, h.2.1, hv]
theorem Cst.fro {bk n : Nat} {w x : World} {cs : Array Value} {l : List UInt8} (h : Cst bk n w cs l x) (j : Nat) : x.frozen? ⟨n, j, none⟩ = false := by
  simp [World.frozen?, h.2.1]
theorem Cst.put {bk n : Nat} {w x : World} {cs : Array Value} {l : List UInt8} (h : Cst bk n w cs l x) (hn : n ≠ bk) (hw : w.heap.size ≤ n) (j : Nat) (v : Value) : Cst bk n w (cs.setIfInBounds j v) l (x.setCell ⟨n, j, none⟩ v) := by
  obtain ⟨h1, h2, h3, h4⟩ := h
  refine ⟨⟨h1.os, h1.output, by simpa [World.setCell] using h1.size, fun k hk hkn => (Below.heap_setCell _ _ _ _ (by show k ≠ n; omega)).trans (h1.block k hk hkn), (World.frozen?_setCell _ _ _ _).trans h1.frozen, h1.tape⟩, ?_, ?_, (World.frozen?_setCell _ _ _ _).trans h4⟩
  · simp [World.setCell, Array.getElem?_modify, h2]
  · unfold World.cell? at h3 ⊢
    rw [Below.heap_setCell _ _ _ _ (by show bk ≠ n; omega)]
    exact h3
/-- a day and time, as a text has it -/
def rciv (l : List UInt8) : Option ((Int × Int × Int × Int × Int × Int) × List UInt8) :=
  (rnum 4 0 l).bind fun a1 => (rsign [45] a1.2).bind fun a2 => (rnum 2 0 a2.2).bind fun a3 => (rsign [45] a3.2).bind fun a4 => (rnum 2 0 a4.2).bind fun a5 => (rsign [84, 116] a5.2).bind fun a6 =>
  (rnum 2 0 a6.2).bind fun a7 => (rsign [58] a7.2).bind fun a8 => (rnum 2 0 a8.2).bind fun a9 => (rsign [58] a9.2).bind fun a10 => (rnum 2 0 a10.2).bind fun a11 => some ((a1.1, a3.1, a5.1, a7.1, a9.1, a11.1), a11.2)
def CivPost (o : Option ((Int × Int × Int × Int × Int × Int) × List UInt8)) (bk : Nat) (w : World) (e : Ending) (w' : World) : Prop :=
  match o with
  | none => e = .panicked [{ v := faultV, recovered := false }] ∧ Only bk w w'
  | some ((y, m, d, h, i, s), r) => e = .returned (civ y m d h i s) ∧ Only bk w w' ∧ w'.cell? ⟨bk, 0, none⟩ = some (.string ⟨r.toArray⟩)
set_option maxHeartbeats 4000000 in
theorem civ_any (l : List UInt8) (bk : Nat) (w : World) (hb : bk < w.heap.size) (hc : w.cell? ⟨bk, 0, none⟩ = some (.string ⟨l.toArray⟩)) (hf : w.frozen? ⟨bk, 0, none⟩ = false) :
    Calls Tryz.prog 152 #[.pointer (some ⟨bk, 0, none⟩)] w (CivPost (rciv l) bk w) := by
  have st := Cst.start #[.int .i64 0, .int .i64 0, .int .i64 0, .int .i64 0, .int .i64 0, .int .i64 0] hb hc hf
  have hn : w.heap.size ≠ bk := by omega
  have HB := Lib.hid hb; clear hb hc hf
  have HN := Lib.hid hn; clear hn
  go_enter Tryz.func152, Tryz.ntmps152
  go_wp2_with fail
  generalize w.alloc (.cells #[.int .i64 0, .int .i64 0, .int .i64 0, .int .i64 0, .int .i64 0, .int .i64 0] 182) = x0 at *
  have ST0 := Lib.hid st; clear st
  refine (num_4 l bk _ ST0.out.2.2.1 ST0.out.2.2.2).mono ?_
  intro e y1 hp
  rcases h1 : rnum 4 0 l with _ | ⟨v1, l1⟩
  · rw [h1] at hp
    obtain ⟨rfl, ho⟩ := hp
    refine ⟨rfl, ?_⟩
    show CivPost (rciv l) bk w _ _
    rw [show rciv l = none by simp only [rciv, h1, Option.bind_none]]
    exact ⟨rfl, ST0.out.1.trans ho⟩
  rw [h1] at hp
  obtain ⟨rfl, ho, hc⟩ := hp
  have ST1 := Lib.hid (ST0.out.call HN.out ho hc)
  clear ST0 ho hc
  have H1 := Lib.hid h1; clear h1
  have c0 := ST1.out.cell 0 rfl
  have f0 := ST1.out.fro 0
  go_wp2_with fail
  have ST1p := Lib.hid (ST1.out.put HN.out (Nat.le_refl _) 0 (.int .i64 v1))
  clear ST1 c0 f0
  generalize y1.setCell ⟨w.heap.size, 0, none⟩ (.int .i64 v1) = x1 at *
  refine (sign_any [45] l1 bk _ ST1p.out.2.2.1 ST1p.out.2.2.2).mono ?_
  intro e y2 hp
  rcases h2 : rsign [45] l1 with _ | ⟨v2, l2⟩
  · rw [h2] at hp
    obtain ⟨rfl, ho⟩ := hp
    refine ⟨rfl, ?_⟩
    show CivPost (rciv l) bk w _ _
    rw [show rciv l = none by simp only [rciv, H1.out, h2, Option.bind_none, Option.bind_some]]
    exact ⟨rfl, ST1p.out.1.trans ho⟩
  rw [h2] at hp
  obtain ⟨rfl, ho, hc⟩ := hp
  have ST2 := Lib.hid (ST1p.out.call HN.out ho hc)
  clear ST1p ho hc
  have H2 := Lib.hid h2; clear h2
  go_wp2_with fail
  refine (num_2 l2 bk _ ST2.out.2.2.1 ST2.out.2.2.2).mono ?_
  intro e y3 hp
  rcases h3 : rnum 2 0 l2 with _ | ⟨v3, l3⟩
  · rw [h3] at hp
    obtain ⟨rfl, ho⟩ := hp
    refine ⟨rfl, ?_⟩
    show CivPost (rciv l) bk w _ _
    rw [show rciv l = none by simp only [rciv, H1.out, H2.out, h3, Option.bind_none, Option.bind_some]]
    exact ⟨rfl, ST2.out.1.trans ho⟩
  rw [h3] at hp
  obtain ⟨rfl, ho, hc⟩ := hp
  have ST3 := Lib.hid (ST2.out.call HN.out ho hc)
  clear ST2 ho hc
  have H3 := Lib.hid h3; clear h3
  have c0 := ST3.out.cell 1 rfl
  have f0 := ST3.out.fro 1
  go_wp2_with fail
  have ST3p := Lib.hid (ST3.out.put HN.out (Nat.le_refl _) 1 (.int .i64 v3))
  clear ST3 c0 f0
  generalize y3.setCell ⟨w.heap.size, 1, none⟩ (.int .i64 v3) = x3 at *
  refine (sign_any [45] l3 bk _ ST3p.out.2.2.1 ST3p.out.2.2.2).mono ?_
  intro e y4 hp
  rcases h4 : rsign [45] l3 with _ | ⟨v4, l4⟩
  · rw [h4] at hp
    obtain ⟨rfl, ho⟩ := hp
    refine ⟨rfl, ?_⟩
    show CivPost (rciv l) bk w _ _
    rw [show rciv l = none by simp only [rciv, H1.out, H2.out, H3.out, h4, Option.bind_none, Option.bind_some]]
    exact ⟨rfl, ST3p.out.1.trans ho⟩
  rw [h4] at hp
  obtain ⟨rfl, ho, hc⟩ := hp
  have ST4 := Lib.hid (ST3p.out.call HN.out ho hc)
  clear ST3p ho hc
  have H4 := Lib.hid h4; clear h4
  go_wp2_with fail
  refine (num_2 l4 bk _ ST4.out.2.2.1 ST4.out.2.2.2).mono ?_
  intro e y5 hp
  rcases h5 : rnum 2 0 l4 with _ | ⟨v5, l5⟩
  · rw [h5] at hp
    obtain ⟨rfl, ho⟩ := hp
    refine ⟨rfl, ?_⟩
    show CivPost (rciv l) bk w _ _
    rw [show rciv l = none by simp only [rciv, H1.out, H2.out, H3.out, H4.out, h5, Option.bind_none, Option.bind_some]]
    exact ⟨rfl, ST4.out.1.trans ho⟩
  rw [h5] at hp
  obtain ⟨rfl, ho, hc⟩ := hp
  have ST5 := Lib.hid (ST4.out.call HN.out ho hc)
  clear ST4 ho hc
  have H5 := Lib.hid h5; clear h5
  have c0 := ST5.out.cell 2 rfl
  have f0 := ST5.out.fro 2
  go_wp2_with fail
  have ST5p := Lib.hid (ST5.out.put HN.out (Nat.le_refl _) 2 (.int .i64 v5))
  clear ST5 c0 f0
  generalize y5.setCell ⟨w.heap.size, 2, none⟩ (.int .i64 v5) = x5 at *
  refine (sign_any [84, 116] l5 bk _ ST5p.out.2.2.1 ST5p.out.2.2.2).mono ?_
  intro e y6 hp
  rcases h6 : rsign [84, 116] l5 with _ | ⟨v6, l6⟩
  · rw [h6] at hp
    obtain ⟨rfl, ho⟩ := hp
    refine ⟨rfl, ?_⟩
    show CivPost (rciv l) bk w _ _
    rw [show rciv l = none by simp only [rciv, H1.out, H2.out, H3.out, H4.out, H5.out, h6, Option.bind_none, Option.bind_some]]
    exact ⟨rfl, ST5p.out.1.trans ho⟩
  rw [h6] at hp
  obtain ⟨rfl, ho, hc⟩ := hp
  have ST6 := Lib.hid (ST5p.out.call HN.out ho hc)
  clear ST5p ho hc
  have H6 := Lib.hid h6; clear h6
  go_wp2_with fail
  refine (num_2 l6 bk _ ST6.out.2.2.1 ST6.out.2.2.2).mono ?_
  intro e y7 hp
  rcases h7 : rnum 2 0 l6 with _ | ⟨v7, l7⟩
  · rw [h7] at hp
    obtain ⟨rfl, ho⟩ := hp
    refine ⟨rfl, ?_⟩
    show CivPost (rciv l) bk w _ _
    rw [show rciv l = none by simp only [rciv, H1.out, H2.out, H3.out, H4.out, H5.out, H6.out, h7, Option.bind_none, Option.bind_some]]
    exact ⟨rfl, ST6.out.1.trans ho⟩
  rw [h7] at hp
  obtain ⟨rfl, ho, hc⟩ := hp
  have ST7 := Lib.hid (ST6.out.call HN.out ho hc)
  clear ST6 ho hc
  have H7 := Lib.hid h7; clear h7
  have c0 := ST7.out.cell 3 rfl
  have f0 := ST7.out.fro 3
  go_wp2_with fail
  have ST7p := Lib.hid (ST7.out.put HN.out (Nat.le_refl _) 3 (.int .i64 v7))
  clear ST7 c0 f0
  generalize y7.setCell ⟨w.heap.size, 3, none⟩ (.int .i64 v7) = x7 at *
  refine (sign_any [58] l7 bk _ ST7p.out.2.2.1 ST7p.out.2.2.2).mono ?_
  intro e y8 hp
  rcases h8 : rsign [58] l7 with _ | ⟨v8, l8⟩
  · rw [h8] at hp
    obtain ⟨rfl, ho⟩ := hp
    refine ⟨rfl, ?_⟩
    show CivPost (rciv l) bk w _ _
    rw [show rciv l = none by simp only [rciv, H1.out, H2.out, H3.out, H4.out, H5.out, H6.out, H7.out, h8, Option.bind_none, Option.bind_some]]
    exact ⟨rfl, ST7p.out.1.trans ho⟩
  rw [h8] at hp
  obtain ⟨rfl, ho, hc⟩ := hp
  have ST8 := Lib.hid (ST7p.out.call HN.out ho hc)
  clear ST7p ho hc
  have H8 := Lib.hid h8; clear h8
  go_wp2_with fail
  refine (num_2 l8 bk _ ST8.out.2.2.1 ST8.out.2.2.2).mono ?_
  intro e y9 hp
  rcases h9 : rnum 2 0 l8 with _ | ⟨v9, l9⟩
  · rw [h9] at hp
    obtain ⟨rfl, ho⟩ := hp
    refine ⟨rfl, ?_⟩
    show CivPost (rciv l) bk w _ _
    rw [show rciv l = none by simp only [rciv, H1.out, H2.out, H3.out, H4.out, H5.out, H6.out, H7.out, H8.out, h9, Option.bind_none, Option.bind_some]]
    exact ⟨rfl, ST8.out.1.trans ho⟩
  rw [h9] at hp
  obtain ⟨rfl, ho, hc⟩ := hp
  have ST9 := Lib.hid (ST8.out.call HN.out ho hc)
  clear ST8 ho hc
  have H9 := Lib.hid h9; clear h9
  have c0 := ST9.out.cell 4 rfl
  have f0 := ST9.out.fro 4
  go_wp2_with fail
  have ST9p := Lib.hid (ST9.out.put HN.out (Nat.le_refl _) 4 (.int .i64 v9))
  clear ST9 c0 f0
  generalize y9.setCell ⟨w.heap.size, 4, none⟩ (.int .i64 v9) = x9 at *
  refine (sign_any [58] l9 bk _ ST9p.out.2.2.1 ST9p.out.2.2.2).mono ?_
  intro e y10 hp
  rcases h10 : rsign [58] l9 with _ | ⟨v10, l10⟩
  · rw [h10] at hp
    obtain ⟨rfl, ho⟩ := hp
    refine ⟨rfl, ?_⟩
    show CivPost (rciv l) bk w _ _
    rw [show rciv l = none by simp only [rciv, H1.out, H2.out, H3.out, H4.out, H5.out, H6.out, H7.out, H8.out, H9.out, h10, Option.bind_none, Option.bind_some]]
    exact ⟨rfl, ST9p.out.1.trans ho⟩
  rw [h10] at hp
  obtain ⟨rfl, ho, hc⟩ := hp
  have ST10 := Lib.hid (ST9p.out.call HN.out ho hc)
  clear ST9p ho hc
  have H10 := Lib.hid h10; clear h10
  go_wp2_with fail
  refine (num_2 l10 bk _ ST10.out.2.2.1 ST10.out.2.2.2).mono ?_
  intro e y11 hp
  rcases h11 : rnum 2 0 l10 with _ | ⟨v11, l11⟩
  · rw [h11] at hp
    obtain ⟨rfl, ho⟩ := hp
    refine ⟨rfl, ?_⟩
    show CivPost (rciv l) bk w _ _
    rw [show rciv l = none by simp only [rciv, H1.out, H2.out, H3.out, H4.out, H5.out, H6.out, H7.out, H8.out, H9.out, H10.out, h11, Option.bind_none, Option.bind_some]]
    exact ⟨rfl, ST10.out.1.trans ho⟩
  rw [h11] at hp
  obtain ⟨rfl, ho, hc⟩ := hp
  have ST11 := Lib.hid (ST10.out.call HN.out ho hc)
  clear ST10 ho hc
  have H11 := Lib.hid h11; clear h11
  have c0 := ST11.out.cell 0 rfl
  have c1 := ST11.out.cell 1 rfl
  have c2 := ST11.out.cell 2 rfl
  have c3 := ST11.out.cell 3 rfl
  have c4 := ST11.out.cell 4 rfl
  have c5 := ST11.out.cell 5 rfl
  have f0 := ST11.out.fro
  go_wp2
  refine bodyPost_ret (v := civ v1 v3 v5 v7 v9 v11) (by simp [results, Tryz.results152, go_sem, *]) rfl ?_
  have hz := (((((((ST11.out.put HN.out (Nat.le_refl _) 5 (.int .i64 v11)).put HN.out (Nat.le_refl _) 0 (.int .i64 v1)).put HN.out (Nat.le_refl _) 1 (.int .i64 v3)).put HN.out (Nat.le_refl _) 2 (.int .i64 v5)).put HN.out (Nat.le_refl _) 3 (.int .i64 v7)).put HN.out (Nat.le_refl _) 4 (.int .i64 v9)).put HN.out (Nat.le_refl _) 5 (.int .i64 v11))
  rw [show rciv l = some ((v1, v3, v5, v7, v9, v11), l11) by simp only [rciv, H1.out, H2.out, H3.out, H4.out, H5.out, H6.out, H7.out, H8.out, H9.out, H10.out, H11.out, Option.bind_some]]
  exact ⟨rfl, hz.1, hz.2.2.1⟩
end Go.Proofs.YtflhmgnhjnaiiaaGreatDoor.Sm
