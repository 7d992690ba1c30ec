/- Contracts of package stamp: the reader's signs and numbers. -/
import Derived.Test.YtlmjopembcifiaaDoorStMail
import Derived.WalkLawsBesides
namespace Go.Proofs.YtlmjopembcifiaaDoor
open Go.ChangeShapes Go.WideShapes Go.ChangeAt Go.RowKit
open Civ
/-- nothing has turned but a reader's text (blocks may have come behind) -/
structure Only (bk : Nat) (w w' : World) : Prop where
  os : w'.os = w.os
  output : w'.output = w.output
  size : w.heap.size ≤ w'.heap.size
  block : ∀ k, k < w.heap.size → k ≠ bk → w'.heap[k]? = w.heap[k]?
  frozen : w'.frozen? ⟨bk, 0, none⟩ = w.frozen? ⟨bk, 0, none⟩
theorem Only.refl (bk : Nat) (w : World) : Only bk w w := ⟨rfl, rfl, Nat.le_refl _, fun _ _ _ => rfl, rfl⟩
theorem Only.trans {bk : Nat} {a b c : World} (h : Only bk a b) (k : Only bk b c) : Only bk a c :=
  ⟨k.os.trans h.os, k.output.trans h.output, Nat.le_trans h.size k.size, fun i hi hn => (k.block i (Nat.lt_of_lt_of_le hi h.size) hn).trans (h.block i hi hn), k.frozen.trans h.frozen⟩
theorem Only.set (bk : Nat) (w : World) (v : Value) : Only bk w (w.setCell ⟨bk, 0, none⟩ v) :=
  ⟨rfl, rfl, by simp [World.setCell], fun k hk hn => Below.heap_setCell _ _ _ _ hn, World.frozen?_setCell _ _ _ _⟩

def rsign (those : List UInt8) : List UInt8 → Option (UInt8 × List UInt8)
  | [] => none
  | b :: r => if those.contains b then some (b, r) else none
theorem rsign_cons (those : List UInt8) (c : UInt8) (r : List UInt8) : rsign those (c :: r) = if those.contains c = true then some (c, r) else none := rfl
abbrev faultV : Value := .iface 74 (.agg #[.int .i64 2])
def SignPost (o : Option (UInt8 × List UInt8)) (bk : Nat) (w : World) (e : Ending) (w' : World) : Prop :=
  match o with
  | none => e = .panicked [{ v := faultV, recovered := false }] ∧ Only bk w w'
  | some (c, r) => e = .returned (.int .u8 c.toNat) ∧ Only bk w w' ∧ w'.cell? ⟨bk, 0, none⟩ = some (.string ⟨r.toArray⟩)
theorem idx_ge (l : List UInt8) (c : UInt8) : -1 ≤ Lib.indexByte l c ∧ (l.contains c = true → 0 ≤ Lib.indexByte l c) ∧ (l.contains c = false → Lib.indexByte l c = -1) := by
  induction l with
  | nil => simp [Lib.indexByte]
  | cons b l ih =>
    obtain ⟨i1, i2, i3⟩ := ih
    simp only [Lib.indexByte, List.contains_cons]
    by_cases hb : b = c
    · subst hb; simp
    · have hb' : (b == c) = false := by simpa using hb
      have hc' : (c == b) = false := by simpa using fun h : c = b => hb h.symm
      rw [hb', hc']
      simp only [Bool.false_or, Bool.false_eq_true, if_false]
      cases hl : l.contains c with
      | true => have := i2 hl; rw [if_neg (by simp; omega)]; refine ⟨by omega, fun _ => by omega, fun h => by simp at h⟩
      | false => have := i3 hl; rw [if_pos (by simp; omega)]; refine ⟨by omega, fun h => by simp at h, fun _ => rfl⟩
theorem index_any (those : List UInt8) (c : UInt8) (w : World) :
    Calls Tryd.prog 79 #[.string ⟨those.toArray⟩, .int .u8 c.toNat] w fun e w' => e = .returned (.int .i64 (Lib.indexByte those c)) ∧ w = w' := by
  refine (Tryd.strings_IndexByte _ _ _).mono ?_
  rintro e w1 ⟨rfl, rfl⟩
  exact ⟨by simp, rfl⟩
theorem sign_nil (those : List UInt8) (bk : Nat) (w : World) (hc : w.cell? ⟨bk, 0, none⟩ = some (.string ⟨([] : List UInt8).toArray⟩)) :
    Calls Tryd.prog 69 #[.pointer (some ⟨bk, 0, none⟩), .string ⟨those.toArray⟩] w (SignPost none bk w) := by
  go_enter Tryd.func69, Tryd.ntmps69
  go_wp2
  exact ⟨rfl, rfl, Only.refl _ _⟩
theorem at0 (c : UInt8) (r : List UInt8) (h : 0 < (ByteArray.mk (c :: r).toArray).size) : (ByteArray.mk (c :: r).toArray)[0]'h = c := rfl
theorem sign_no (those : List UInt8) (c : UInt8) (r : List UInt8) (bk : Nat) (w : World) (hc : w.cell? ⟨bk, 0, none⟩ = some (.string ⟨(c :: r).toArray⟩)) (hn : those.contains c = false) :
    Calls Tryd.prog 69 #[.pointer (some ⟨bk, 0, none⟩), .string ⟨those.toArray⟩] w (SignPost none bk w) := by
  have hi : Lib.indexByte those c = -1 := (idx_ge those c).2.2 hn
  clear hn
  go_enter Tryd.func69, Tryd.ntmps69
  go_wp2_with fail
  rw [at0]
  refine (index_any _ _ _).mono ?_
  rintro e w1 ⟨rfl, rfl⟩
  go_wp2
  exact ⟨rfl, rfl, Only.refl _ _⟩
theorem sign_yes (those : List UInt8) (c : UInt8) (r : List UInt8) (bk : Nat) (w : World) (hc : w.cell? ⟨bk, 0, none⟩ = some (.string ⟨(c :: r).toArray⟩)) (hf : w.frozen? ⟨bk, 0, none⟩ = false) (hn : those.contains c = true) :
    Calls Tryd.prog 69 #[.pointer (some ⟨bk, 0, none⟩), .string ⟨those.toArray⟩] w (SignPost (some (c, r)) bk w) := by
  have hi : ¬ Lib.indexByte those c < 0 := by have := (idx_ge those c).2.1 hn; omega
  clear hn
  go_enter Tryd.func69, Tryd.ntmps69
  go_wp2_with fail
  rw [at0]
  refine (index_any _ _ _).mono ?_
  rintro e w1 ⟨rfl, rfl⟩
  have hx : (ByteArray.mk (c :: r).toArray).extract 1 (r.length + 1) = ⟨r.toArray⟩ := by rw [extract_mk]; simp
  go_wp2
  go_ret
  exact ⟨rfl, Only.set _ _ _, World.cell?_setCell_same _ _ _ hc⟩
theorem sign_any (those l : List UInt8) (bk : Nat) (w : World) (hc : w.cell? ⟨bk, 0, none⟩ = some (.string ⟨l.toArray⟩)) (hf : w.frozen? ⟨bk, 0, none⟩ = false) :
    Calls Tryd.prog 69 #[.pointer (some ⟨bk, 0, none⟩), .string ⟨those.toArray⟩] w (SignPost (rsign those l) bk w) := by
  cases l with
  | nil => exact sign_nil those bk w hc
  | cons c r =>
    cases h : those.contains c with
    | false => rw [show rsign those (c :: r) = none by rw [rsign_cons, h]; rfl]; exact sign_no those c r bk w hc h
    | true => rw [show rsign those (c :: r) = some (c, r) by rw [rsign_cons, h]; rfl]; exact sign_yes those c r bk w hc hf h
/-- just so many digits -/
def rnum : Nat → Int → List UInt8 → Option (Int × List UInt8)
  | 0, a, l => some (a, l)
  | k + 1, a, l => match rsign [48, 49, 50, 51, 52, 53, 54, 55, 56, 57] l with
    | none => none
    | some (c, r) => rnum k (a * 10 + ((c.toNat : Int) - 48)) r
theorem digit_bd {c : UInt8} (h : [48, 49, 50, 51, 52, 53, 54, 55, 56, 57].contains c = true) : 48 ≤ c.toNat ∧ c.toNat ≤ 57 := by
  simp at h
  rcases h with rfl | rfl | rfl | rfl | rfl | rfl | rfl | rfl | rfl | rfl <;> decide
theorem rsign_some {those l r : List UInt8} {c : UInt8} (h : rsign those l = some (c, r)) : l = c :: r ∧ those.contains c = true := by
  cases l with
  | nil => cases h
  | cons b l =>
    rw [rsign_cons] at h
    cases hb : those.contains b with
    | true => rw [hb] at h; cases h; exact ⟨rfl, hb⟩
    | false => rw [hb] at h; cases h
def NumPost (o : Option (Int × List UInt8)) (bk : Nat) (w : World) (e : Ending) (w' : World) : Prop :=
  match o with
  | none => e = .panicked [{ v := faultV, recovered := false }] ∧ Only bk w w'
  | some (n, r) => e = .returned (.int .i64 n) ∧ Only bk w w' ∧ w'.cell? ⟨bk, 0, none⟩ = some (.string ⟨r.toArray⟩)
/-- within a number: what is left of it, what has been reckoned, what is left of the text -/
def NumIn (k : Nat) (l : List UInt8) (bk : Nat) (w : World) (a i : Value) (x : World) : Prop :=
  ∃ (j : Nat) (n : Int) (r : List UInt8), j ≤ k ∧ i = .int .i64 j ∧ a = .int .i64 n ∧ 0 ≤ n ∧ n < 10 ^ j ∧ rnum k 0 l = rnum (k - j) n r ∧ Only bk w x ∧ x.cell? ⟨bk, 0, none⟩ = some (.string ⟨r.toArray⟩)
set_option maxHeartbeats 1000000 in
theorem num_any (k : Nat) (hk : k ≤ 4) (l : List UInt8) (bk : Nat) (w : World) (hc : w.cell? ⟨bk, 0, none⟩ = some (.string ⟨l.toArray⟩)) (hf : w.frozen? ⟨bk, 0, none⟩ = false) :
    Calls Tryd.prog 68 #[.pointer (some ⟨bk, 0, none⟩), .int .i64 k] w (NumPost (rnum k 0 l) bk w) := by
  go_enter Tryd.func68, Tryd.ntmps68
  go_wp2_with fail
  go_loopw [5, 7] (fun a i x => NumIn k l bk w a i x) (fun _ i _ => k - (intOf i).toNat)
  case atStart => exact ⟨0, 0, l, Nat.zero_le _, rfl, rfl, by omega, by omega, rfl, Only.refl _ _, hc⟩
  case round =>
    rename_i wx
    obtain ⟨j, n, r, hj, rfl, rfl, n0, n1, hr, ho, hcx⟩ := hrel
    have hfx := ho.frozen.trans hf
    have n2 : n < 10000 := by
      have : (10 : Int) ^ j ≤ 10 ^ 4 := by exact_mod_cast Nat.pow_le_pow_right (show 0 < 10 by omega) (show j ≤ 4 by omega)
      omega
    have HR := Lib.hid hr; clear hr
    have N1 := Lib.hid n1; clear n1
    by_cases hlt : j < k
    · go_wp2_with fail
      refine (sign_any [48, 49, 50, 51, 52, 53, 54, 55, 56, 57] r bk _ hcx hfx).mono ?_
      intro e w2 hp
      cases hs : rsign [48, 49, 50, 51, 52, 53, 54, 55, 56, 57] r with
      | none =>
        rw [hs] at hp
        obtain ⟨rfl, ho2⟩ := hp
        have hn : rnum k 0 l = none := by
          rw [HR.out, show k - j = (k - j - 1) + 1 by omega, rnum, hs]
        refine ⟨rfl, ?_⟩
        show NumPost (rnum k 0 l) bk w _ _
        rw [hn]
        exact ⟨rfl, ho.trans ho2⟩
      | some p =>
        obtain ⟨c, r2⟩ := p
        rw [hs] at hp
        obtain ⟨rfl, ho2, hc2⟩ := hp
        obtain ⟨d1, d2⟩ := digit_bd (rsign_some hs).2
        have hnn : rnum k 0 l = rnum (k - (j + 1)) (n * 10 + ((c.toNat : Int) - 48)) r2 := by
          rw [HR.out, show k - j = (k - (j + 1)) + 1 by omega, rnum, hs]
        have HN := Lib.hid hnn; clear hnn hs
        go_wp2
        go_roundw
        case rel => exact ⟨j + 1, n * 10 + ((c.toNat : Int) - 48), r2, by omega, by go_num, by go_num, by omega, by have := N1.out; rw [Int.pow_succ]; omega, HN.out, ho.trans ho2, hc2⟩
        case measure => simp [intOf]; omega
    · have hjk : j = k := by omega
      go_wp2
      go_ret
      have := HR.out
      rw [hjk, Nat.sub_self, rnum] at this
      rw [this]
      exact ⟨rfl, ho, hcx⟩
theorem num_4 (l : List UInt8) (bk : Nat) (w : World) (hc : w.cell? ⟨bk, 0, none⟩ = some (.string ⟨l.toArray⟩)) (hf : w.frozen? ⟨bk, 0, none⟩ = false) :
    Calls Tryd.prog 68 #[.pointer (some ⟨bk, 0, none⟩), .int .i64 4] w (NumPost (rnum 4 0 l) bk w) := num_any 4 (by omega) l bk w hc hf
theorem num_2 (l : List UInt8) (bk : Nat) (w : World) (hc : w.cell? ⟨bk, 0, none⟩ = some (.string ⟨l.toArray⟩)) (hf : w.frozen? ⟨bk, 0, none⟩ = false) :
    Calls Tryd.prog 68 #[.pointer (some ⟨bk, 0, none⟩), .int .i64 2] w (NumPost (rnum 2 0 l) bk w) := num_any 2 (by omega) l bk w hc hf
theorem num_1 (l : List UInt8) (bk : Nat) (w : World) (hc : w.cell? ⟨bk, 0, none⟩ = some (.string ⟨l.toArray⟩)) (hf : w.frozen? ⟨bk, 0, none⟩ = false) :
    Calls Tryd.prog 68 #[.pointer (some ⟨bk, 0, none⟩), .int .i64 1] w (NumPost (rnum 1 0 l) bk w) := num_any 1 (by omega) l bk w hc hf
end Go.Proofs.YtlmjopembcifiaaDoor
