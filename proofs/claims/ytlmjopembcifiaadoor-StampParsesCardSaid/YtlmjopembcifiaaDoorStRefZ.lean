/- Contracts of the document's answers for layer 2: numbers and zones of a text. -/
import Derived.Test.YtlmjopembcifiaaDoorStRead
import Derived.Test.YtlmjopembcifiaaDoorStRef
namespace Go.Proofs.YtlmjopembcifiaaDoor
open Go.ChangeShapes Go.WideShapes Go.ChangeAt Go.RowKit
open Civ
/-- the number that stands somewhere; -1: there is none -/
def nz : Option (Int × List UInt8) → Int
  | none => -1
  | some (n, _) => n
theorem not_digit {c : UInt8} (h : c.toNat < 48 ∨ 57 < c.toNat) : [48, 49, 50, 51, 52, 53, 54, 55, 56, 57].contains c = false := by
  cases hc : [48, 49, 50, 51, 52, 53, 54, 55, 56, 57].contains c with
  | false => rfl
  | true => have := digit_bd hc; omega
theorem is_digit {c : UInt8} (h1 : 48 ≤ c.toNat) (h2 : c.toNat ≤ 57) : [48, 49, 50, 51, 52, 53, 54, 55, 56, 57].contains c = true := by
  have : c.toNat = 48 ∨ c.toNat = 49 ∨ c.toNat = 50 ∨ c.toNat = 51 ∨ c.toNat = 52 ∨ c.toNat = 53 ∨ c.toNat = 54 ∨ c.toNat = 55 ∨ c.toNat = 56 ∨ c.toNat = 57 := by omega
  have e : c = UInt8.ofNat c.toNat := by simp
  rw [e]
  rcases this with h | h | h | h | h | h | h | h | h | h <;> rw [h] <;> decide
theorem rnum_short (k : Nat) (a : Int) (l : List UInt8) (h : l.length < k) : rnum k a l = none := by
  induction k generalizing a l with
  | zero => omega
  | succ k ih =>
    cases l with
    | nil => rfl
    | cons c r =>
      rw [rnum, rsign_cons]
      by_cases hc : [48, 49, 50, 51, 52, 53, 54, 55, 56, 57].contains c = true
      · rw [if_pos hc]; exact ih _ r (by simp at h; omega)
      · rw [if_neg hc]
theorem at_drop {l : List UInt8} {i : Nat} {c : UInt8} {r : List UInt8} (h : l.drop i = c :: r) (hx : i < (ByteArray.mk l.toArray).size) : (ByteArray.mk l.toArray)[i]'hx = c := by
  show l.toArray[i] = c
  have : (l.drop i)[0]? = some c := by rw [h]; rfl
  rw [List.getElem?_drop] at this
  simp at this ⊢
  exact (List.getElem?_eq_some_iff.1 this).2
set_option maxHeartbeats 1000000 in
theorem rnumber_any (l : List UInt8) (f k : Nat) (w : World) (hl : l.length ≤ 100) (hf : f ≤ 100) (hk1 : 1 ≤ k) (hk : k ≤ 4) :
    Calls Tryd.prog 41 #[.string ⟨l.toArray⟩, .int .i64 f, .int .i64 k] w fun e w' => e = .returned (.int .i64 (nz (rnum k 0 (l.drop f)))) ∧ w = w' := by
  by_cases hs : l.length < f + k
  · have hn := Lib.hid (show nz (rnum k 0 (l.drop f)) = -1 by rw [rnum_short k 0 _ (by rw [List.length_drop]; omega)]; rfl)
    have h1 : (l.length : Int) < (f : Int) + (k : Int) := by omega
    have h2 : (f : Int) + (k : Int) ≤ 104 := by omega
    go_enter Tryd.func41, Tryd.ntmps41
    go_wp2
    go_ret
    rw [hn.out]
    exact ⟨rfl, rfl⟩
  · have h1 : ¬ (l.length : Int) < (f : Int) + (k : Int) := by omega
    have h2 : (f : Int) + (k : Int) ≤ 104 := by omega
    go_enter Tryd.func41, Tryd.ntmps41
    go_wp2_with fail
    go_loop [7, 8] (fun a i => ∃ (j : Nat) (n : Int), j ≤ k ∧ i = .int .i64 ((f + j : Nat) : Int) ∧ a = .int .i64 n ∧ 0 ≤ n ∧ n < 10 ^ j ∧ rnum k 0 (l.drop f) = rnum (k - j) n (l.drop (f + j))) (fun _ i => f + k - (intOf i).toNat)
    case atStart => exact ⟨0, 0, Nat.zero_le _, by simp, rfl, by omega, by omega, by simp⟩
    case round =>
      obtain ⟨j, n, hj, rfl, rfl, n0, n1, hr⟩ := hrel
      have n2 : n < 10000 := by
        have : (10 : Int) ^ j ≤ 10 ^ 4 := by exact_mod_cast Nat.pow_le_pow_right (show 0 < 10 by omega) (show j ≤ 4 by omega)
        omega
      have HR := Lib.hid hr; clear hr
      have N1 := Lib.hid n1; clear n1
      by_cases hlt : j < k
      · obtain ⟨c, r, hd⟩ : ∃ c r, l.drop (f + j) = c :: r := by
          cases hd : l.drop (f + j) with
          | nil => have := congrArg List.length hd; rw [List.length_drop] at this; simp at this; omega
          | cons c r => exact ⟨c, r, rfl⟩
        have hd2 : l.drop (f + (j + 1)) = r := by
          have := congrArg (List.drop 1) hd
          rw [List.drop_drop] at this
          simpa [Nat.add_assoc] using this
        have hx := fun hh => at_drop hd hh
        have i1 : (0 : Int) ≤ ((f + j : Nat) : Int) := by omega
        have i2 : ((f + j : Nat) : Int) < (l.length : Int) := by omega
        have i3 : ((f + j : Nat) : Int) < (f : Int) + (k : Int) := by omega
        have i4 : (((f + j : Nat) : Int)).toNat = f + j := by omega
        by_cases c1 : c.toNat < 48
        · have hn := Lib.hid (show rnum k 0 (l.drop f) = none by rw [HR.out, hd, show k - j = (k - j - 1) + 1 by omega, rnum, rsign_cons, if_neg (by rw [not_digit (Or.inl c1)]; simp)])
          have c1' : (c.toNat : Int) < 48 := by omega
          clear hd
          generalize hg : f + j = g at *
          go_wp2
          go_ret
          rw [hn.out]
          exact ⟨rfl, rfl⟩
        · by_cases c2 : 57 < c.toNat
          · have hn := Lib.hid (show rnum k 0 (l.drop f) = none by rw [HR.out, hd, show k - j = (k - j - 1) + 1 by omega, rnum, rsign_cons, if_neg (by rw [not_digit (Or.inr c2)]; simp)])
            have c1' : ¬ (c.toNat : Int) < 48 := by omega
            have c2' : (57 : Int) < (c.toNat : Int) := by omega
            clear hd
            generalize hg : f + j = g at *
            go_wp2
            go_ret
            rw [hn.out]
            exact ⟨rfl, rfl⟩
          · have hn := Lib.hid (show rnum k 0 (l.drop f) = rnum (k - (j + 1)) (n * 10 + ((c.toNat : Int) - 48)) (l.drop (f + (j + 1))) by rw [HR.out, hd, hd2, show k - j = (k - (j + 1)) + 1 by omega, rnum, rsign_cons, if_pos (is_digit (by omega) (by omega))])
            have c1' : ¬ (c.toNat : Int) < 48 := by omega
            have c2' : ¬ (57 : Int) < (c.toNat : Int) := by omega
            have c3' : (48 : Int) ≤ (c.toNat : Int) := by omega
            have c4' : (c.toNat : Int) ≤ 57 := by omega
            clear hd hd2 c1 c2
            go_wp2
            go_round
            case rel => exact ⟨j + 1, n * 10 + ((c.toNat : Int) - 48), by omega, by go_num, by go_num, by omega, by have := N1.out; rw [Int.pow_succ]; omega, hn.out⟩
            case measure => simp [intOf]; omega
      · have hjk : j = k := by omega
        subst hjk
        have i3 : ¬ ((f + j : Nat) : Int) < (f : Int) + (j : Int) := by omega
        have := HR.out
        rw [Nat.sub_self, rnum] at this
        have HQ := Lib.hid (show nz (rnum j 0 (l.drop f)) = n by rw [this]; rfl)
        clear this
        go_wp2
        go_ret
        rw [HQ.out]
        exact ⟨rfl, rfl⟩
theorem rnum_some (k : Nat) (a : Int) (l r : List UInt8) (n : Int) (h : rnum k a l = some (n, r)) : r = l.drop k ∧ k ≤ l.length ∧ (0 ≤ a → 0 ≤ n) := by
  induction k generalizing a l with
  | zero => rw [rnum] at h; cases h; exact ⟨rfl, Nat.zero_le _, id⟩
  | succ k ih =>
    cases l with
    | nil => cases h
    | cons c l =>
      rw [rnum, rsign_cons] at h
      by_cases hc : [48, 49, 50, 51, 52, 53, 54, 55, 56, 57].contains c = true
      · rw [if_pos hc] at h
        obtain ⟨h1, h2, h3⟩ := ih _ l h
        have := digit_bd hc
        exact ⟨h1, by simp; omega, fun h0 => h3 (by omega)⟩
      · rw [if_neg hc] at h; cases h
/-- how far a clock is ahead, and whether it is of a form -/
def zOut (l : List UInt8) : Option Int := match rzone l with
  | some (z, []) => some z
  | _ => none
theorem rzone_form {l : List UInt8} {z : Int} (h : rzone l = some (z, [])) : l = [90] ∨ l = [122] ∨ l.length = 6 := by
  unfold rzone at h
  rcases h1 : rsign [90, 122, 43, 45] l with _ | ⟨c, l1⟩
  · rw [h1] at h; cases h
  obtain ⟨rfl, _⟩ := rsign_some h1
  rw [h1] at h
  simp only [Option.bind_some] at h
  split at h
  · rename_i hz
    cases h
    rcases hz with rfl | rfl
    · exact Or.inl rfl
    · exact Or.inr (Or.inl rfl)
  rcases h2 : rnum 2 0 l1 with _ | ⟨a, l2⟩
  · rw [h2] at h; cases h
  rw [h2] at h
  simp only [Option.bind_some] at h
  rcases h3 : rsign [58] l2 with _ | ⟨b, l3⟩
  · rw [h3] at h; cases h
  rw [h3] at h
  simp only [Option.bind_some] at h
  rcases h4 : rnum 2 0 l3 with _ | ⟨m, l4⟩
  · rw [h4] at h; cases h
  rw [h4] at h
  simp only [Option.bind_some] at h
  split at h
  · simp only [Option.some.injEq, Prod.mk.injEq] at h
    obtain ⟨_, rfl⟩ := h
    obtain ⟨r1, r2, _⟩ := rnum_some _ _ _ _ _ h2
    obtain ⟨rfl, _⟩ := rsign_some h3
    obtain ⟨r3, r4, _⟩ := rnum_some _ _ _ _ _ h4
    have e1 := congrArg List.length r1
    have e3 := congrArg List.length r3
    rw [List.length_drop] at e1 e3
    simp only [List.length_cons, List.length_nil] at e1 e3
    right; right
    simp only [List.length_cons]
    omega
  · cases h
def ZPost (o : Option Int) (w : World) (e : Ending) (w' : World) : Prop :=
  match o with
  | none => e = .returned (.tuple #[.int .i64 0, .bool false]) ∧ w = w'
  | some z => e = .returned (.tuple #[.int .i64 z, .bool true]) ∧ w = w'
theorem zout_none {l : List UInt8} (h1 : l ≠ [90]) (h2 : l ≠ [122]) (h3 : l.length ≠ 6) : zOut l = none := by
  unfold zOut
  split
  · rename_i z hz
    rcases rzone_form hz with h | h | h
    · exact absurd h h1
    · exact absurd h h2
    · exact absurd h h3
  · rfl
theorem list6' {l : List UInt8} (h : l.length = 6) : ∃ a b c d e f, l = [a, b, c, d, e, f] := by
  match l, h with
  | [a, b, c, d, e, f], _ => exact ⟨a, b, c, d, e, f, rfl⟩
set_option maxHeartbeats 1000000 in
theorem rzone_any (l : List UInt8) (w : World) (hl : l.length ≤ 100) : Calls Tryd.prog 42 #[.string ⟨l.toArray⟩] w (ZPost (zOut l) w) := by
  by_cases e1 : l = [90]
  · subst e1
    go_enter Tryd.func42, Tryd.ntmps42
    go_wp2
    go_ret2
    exact ⟨rfl, rfl⟩
  by_cases e2 : l = [122]
  · subst e2
    go_enter Tryd.func42, Tryd.ntmps42
    go_wp2
    go_ret2
    exact ⟨rfl, rfl⟩
  have b1 : (l == [90]) = false := by simpa using e1
  have b2 : (l == [122]) = false := by simpa using e2
  by_cases h6 : l.length = 6
  · obtain ⟨a, b, c, d, e, f, el⟩ := list6' h6
    have x0 : ∀ hh, (ByteArray.mk l.toArray)[0]'hh = a := fun hh => at_drop (l := l) (i := 0) (r := [b, c, d, e, f]) (by rw [el]; rfl) hh
    have x3 : ∀ hh, (ByteArray.mk l.toArray)[3]'hh = d := fun hh => at_drop (l := l) (i := 3) (r := [e, f]) (by rw [el]; rfl) hh
    have h6' : (l.length : Int) = 6 := by omega
    have EL := Lib.hid el; clear el
    have E1 := Lib.hid e1; clear e1
    have E2 := Lib.hid e2; clear e2
    by_cases ha : a = 43 ∨ a = 45
    · by_cases hd : d = 58
      · have r1 := rnumber_any l 1 2 w hl (by omega) (by omega) (by omega)
        have r4 := rnumber_any l 4 2 w hl (by omega) (by omega) (by omega)
        have D1 : l.drop 1 = [b, c, 58, e, f] := by rw [EL.out, hd]; rfl
        have D4 : l.drop 4 = [e, f] := by rw [EL.out]; rfl
        rw [D1] at r1
        rw [D4] at r4
        have s1 : ∀ t, rsign [90, 122, 43, 45] (a :: t) = some (a, t) := fun t => by rcases ha with rfl | rfl <;> rfl
        have s2 : ¬ (a = 90 ∨ a = 122) := by rcases ha with rfl | rfl <;> decide
        have sd : ∀ hh, (ByteArray.mk l.toArray)[3]'hh = 58 := fun hh => by rw [x3 hh, hd]
        have R1 := Lib.hid r1; clear r1
        have R4 := Lib.hid r4; clear r4
        have n1 : rnum 2 0 [b, c, 58, e, f] = none ∨ ∃ H, 0 ≤ H ∧ rnum 2 0 [b, c, 58, e, f] = some (H, [58, e, f]) := by
          rcases q : rnum 2 0 [b, c, 58, e, f] with _ | ⟨H, l2⟩
          · exact Or.inl rfl
          · obtain ⟨g1, _, g3⟩ := rnum_some _ _ _ _ _ q
            exact Or.inr ⟨H, g3 (by omega), by rw [g1]; rfl⟩
        have n4 : rnum 2 0 [e, f] = none ∨ ∃ M, 0 ≤ M ∧ rnum 2 0 [e, f] = some (M, []) := by
          rcases q : rnum 2 0 [e, f] with _ | ⟨H, l2⟩
          · exact Or.inl rfl
          · obtain ⟨g1, _, g3⟩ := rnum_some _ _ _ _ _ q
            exact Or.inr ⟨H, g3 (by omega), by rw [g1]; rfl⟩
        have hz : rzone l = (rnum 2 0 [b, c, 58, e, f]).bind fun a2 => (rsign [58] a2.2).bind fun a3 => (rnum 2 0 a3.2).bind fun a4 => if tmB a2.1 a4.1 0 = true then some (if a = 45 then -(a2.1 * 3600 + a4.1 * 60) else a2.1 * 3600 + a4.1 * 60, a4.2) else none := by
          rw [EL.out, hd]
          simp only [rzone, s1, Option.bind_some, if_neg s2]
        have HZ := Lib.hid hz; clear hz
        have ss : ∀ t, rsign [58] (58 :: t) = some (58, t) := fun _ => rfl
        have SS := Lib.hid ss; clear ss
        have S1 := Lib.hid s1; clear s1
        have S2 := Lib.hid s2; clear s2
        clear D1 D4 x3 hd
        rcases n1 with q1 | ⟨H, H0, q1⟩
        · have HO := Lib.hid (show zOut l = none by unfold zOut; rw [HZ.out, q1]; rfl)
          have R1' := R1.out
          rw [q1] at R1'
          clear R1
          have R1 := Lib.hid (show Calls Tryd.prog 41 #[.string ⟨l.toArray⟩, .int .i64 1, .int .i64 2] w fun e w' => e = .returned (.int .i64 (-1)) ∧ w = w' from R1')
          clear R1'
          rcases ha with rfl | rfl
          · go_enter Tryd.func42, Tryd.ntmps42
            go_wp2_with fail
            refine R1.out.mono ?_
            rintro e1 w1 ⟨rfl, rfl⟩
            go_wp2_with fail
            refine R4.out.mono ?_
            rintro e1 w1 ⟨rfl, rfl⟩
            go_wp2
            go_ret2
            rw [HO.out]
            exact ⟨rfl, rfl⟩
          · go_enter Tryd.func42, Tryd.ntmps42
            go_wp2_with fail
            refine R1.out.mono ?_
            rintro e1 w1 ⟨rfl, rfl⟩
            go_wp2_with fail
            refine R4.out.mono ?_
            rintro e1 w1 ⟨rfl, rfl⟩
            go_wp2
            go_ret2
            rw [HO.out]
            exact ⟨rfl, rfl⟩
        · have R1' := R1.out
          rw [q1] at R1'
          clear R1
          have R1 := Lib.hid (show Calls Tryd.prog 41 #[.string ⟨l.toArray⟩, .int .i64 1, .int .i64 2] w fun e w' => e = .returned (.int .i64 H) ∧ w = w' from R1')
          clear R1'
          rcases n4 with q4 | ⟨M, M0, q4⟩
          · have HO := Lib.hid (show zOut l = none by unfold zOut; rw [HZ.out, q1]; simp only [Option.bind_some, SS.out, q4, Option.bind_none])
            have R4' := R4.out
            rw [q4] at R4'
            clear R4
            have R4 := Lib.hid (show Calls Tryd.prog 41 #[.string ⟨l.toArray⟩, .int .i64 4, .int .i64 2] w fun e w' => e = .returned (.int .i64 (-1)) ∧ w = w' from R4')
            clear R4'
            have d1 : decide (H < 0) = false := decide_eq_false (by omega)
            by_cases hh : 23 < H
            · rcases ha with rfl | rfl
              · go_enter Tryd.func42, Tryd.ntmps42
                go_wp2_with fail
                refine R1.out.mono ?_
                rintro e1 w1 ⟨rfl, rfl⟩
                go_wp2_with fail
                refine R4.out.mono ?_
                rintro e1 w1 ⟨rfl, rfl⟩
                go_wp2
                go_ret2
                rw [HO.out]
                exact ⟨rfl, rfl⟩
              · go_enter Tryd.func42, Tryd.ntmps42
                go_wp2_with fail
                refine R1.out.mono ?_
                rintro e1 w1 ⟨rfl, rfl⟩
                go_wp2_with fail
                refine R4.out.mono ?_
                rintro e1 w1 ⟨rfl, rfl⟩
                go_wp2
                go_ret2
                rw [HO.out]
                exact ⟨rfl, rfl⟩
            · have d2 : decide (23 < H) = false := decide_eq_false hh
              rcases ha with rfl | rfl
              · go_enter Tryd.func42, Tryd.ntmps42
                go_wp2_with fail
                refine R1.out.mono ?_
                rintro e1 w1 ⟨rfl, rfl⟩
                go_wp2_with fail
                refine R4.out.mono ?_
                rintro e1 w1 ⟨rfl, rfl⟩
                go_wp2
                go_ret2
                rw [HO.out]
                exact ⟨rfl, rfl⟩
              · go_enter Tryd.func42, Tryd.ntmps42
                go_wp2_with fail
                refine R1.out.mono ?_
                rintro e1 w1 ⟨rfl, rfl⟩
                go_wp2_with fail
                refine R4.out.mono ?_
                rintro e1 w1 ⟨rfl, rfl⟩
                go_wp2
                go_ret2
                rw [HO.out]
                exact ⟨rfl, rfl⟩
          · have R4' := R4.out
            rw [q4] at R4'
            clear R4
            have R4 := Lib.hid (show Calls Tryd.prog 41 #[.string ⟨l.toArray⟩, .int .i64 4, .int .i64 2] w fun e w' => e = .returned (.int .i64 M) ∧ w = w' from R4')
            clear R4'
            have d1 : decide (H < 0) = false := decide_eq_false (by omega)
            have d3 : decide (M < 0) = false := decide_eq_false (by omega)
            have HX := Lib.hid (show zOut l = if tmB H M 0 = true then some (if a = 45 then -(H * 3600 + M * 60) else H * 3600 + M * 60) else none by
              unfold zOut; rw [HZ.out, q1]; simp only [Option.bind_some, SS.out, q4]
              by_cases ht : tmB H M 0 = true
              · rw [if_pos ht, if_pos ht]
              · rw [if_neg ht, if_neg ht])
            by_cases hh : 23 < H
            · have HO := Lib.hid (show zOut l = none by rw [HX.out, if_neg (by intro ht; have := tm_bd ht; omega)])
              rcases ha with rfl | rfl
              · go_enter Tryd.func42, Tryd.ntmps42
                go_wp2_with fail
                refine R1.out.mono ?_
                rintro e1 w1 ⟨rfl, rfl⟩
                go_wp2_with fail
                refine R4.out.mono ?_
                rintro e1 w1 ⟨rfl, rfl⟩
                go_wp2
                go_ret2
                rw [HO.out]
                exact ⟨rfl, rfl⟩
              · go_enter Tryd.func42, Tryd.ntmps42
                go_wp2_with fail
                refine R1.out.mono ?_
                rintro e1 w1 ⟨rfl, rfl⟩
                go_wp2_with fail
                refine R4.out.mono ?_
                rintro e1 w1 ⟨rfl, rfl⟩
                go_wp2
                go_ret2
                rw [HO.out]
                exact ⟨rfl, rfl⟩
            · have d2 : decide (23 < H) = false := decide_eq_false hh
              by_cases hm : 59 < M
              · have HO := Lib.hid (show zOut l = none by rw [HX.out, if_neg (by intro ht; have := tm_bd ht; omega)])
                rcases ha with rfl | rfl
                · go_enter Tryd.func42, Tryd.ntmps42
                  go_wp2_with fail
                  refine R1.out.mono ?_
                  rintro e1 w1 ⟨rfl, rfl⟩
                  go_wp2_with fail
                  refine R4.out.mono ?_
                  rintro e1 w1 ⟨rfl, rfl⟩
                  go_wp2
                  go_ret2
                  rw [HO.out]
                  exact ⟨rfl, rfl⟩
                · go_enter Tryd.func42, Tryd.ntmps42
                  go_wp2_with fail
                  refine R1.out.mono ?_
                  rintro e1 w1 ⟨rfl, rfl⟩
                  go_wp2_with fail
                  refine R4.out.mono ?_
                  rintro e1 w1 ⟨rfl, rfl⟩
                  go_wp2
                  go_ret2
                  rw [HO.out]
                  exact ⟨rfl, rfl⟩
              · have d4 : decide (59 < M) = false := decide_eq_false hm
                have ht : tmB H M 0 = true := by unfold tmB; simp; omega
                rcases ha with rfl | rfl
                · have HO := Lib.hid (show zOut l = some (3600 * H + 60 * M) by rw [HX.out, if_pos ht, if_neg (by decide)]; congr 1; omega)
                  clear ht
                  go_enter Tryd.func42, Tryd.ntmps42
                  go_wp2_with fail
                  refine R1.out.mono ?_
                  rintro e1 w1 ⟨rfl, rfl⟩
                  go_wp2_with fail
                  refine R4.out.mono ?_
                  rintro e1 w1 ⟨rfl, rfl⟩
                  go_wp2
                  go_ret2
                  rw [HO.out]
                  exact ⟨rfl, rfl⟩
                · have HO := Lib.hid (show zOut l = some (-3600 * H - 60 * M) by rw [HX.out, if_pos ht, if_pos rfl]; congr 1; omega)
                  clear ht
                  go_enter Tryd.func42, Tryd.ntmps42
                  go_wp2_with fail
                  refine R1.out.mono ?_
                  rintro e1 w1 ⟨rfl, rfl⟩
                  go_wp2_with fail
                  refine R4.out.mono ?_
                  rintro e1 w1 ⟨rfl, rfl⟩
                  go_wp2
                  go_ret2
                  rw [HO.out]
                  exact ⟨rfl, rfl⟩
      · have HO := Lib.hid (show zOut l = none by
          unfold zOut; rw [EL.out]
          have s1 : ∀ t, rsign [90, 122, 43, 45] (a :: t) = some (a, t) := fun t => by rcases ha with rfl | rfl <;> rfl
          have s2 : ¬ (a = 90 ∨ a = 122) := by rcases ha with rfl | rfl <;> decide
          simp only [rzone, s1, Option.bind_some, if_neg s2]
          rcases q : rnum 2 0 [b, c, d, e, f] with _ | ⟨H, l2⟩
          · rfl
          · obtain ⟨g1, _, _⟩ := rnum_some _ _ _ _ _ q
            rw [g1]
            have : rsign [58] ([b, c, d, e, f].drop 2) = none := by
              show rsign [58] (d :: [e, f]) = none
              rw [rsign_cons, if_neg (by simp; exact fun h => hd h)]
            simp only [Option.bind_some, this, Option.bind_none])
        have hd' : ((d.toNat : Int) == 58) = false := by simpa using fun hh => hd ((u8_eq d 58 (by omega)).1 hh)
        clear hd
        rcases ha with rfl | rfl
        · go_enter Tryd.func42, Tryd.ntmps42
          go_wp2
          go_ret2
          rw [HO.out]
          exact ⟨rfl, rfl⟩
        · go_enter Tryd.func42, Tryd.ntmps42
          go_wp2
          go_ret2
          rw [HO.out]
          exact ⟨rfl, rfl⟩
    · have HO := Lib.hid (show zOut l = none by
        unfold zOut; rw [EL.out]
        rcases q : rsign [90, 122, 43, 45] (a :: [b, c, d, e, f]) with _ | ⟨x, l1⟩
        · simp only [rzone, q, Option.bind_none]
        · obtain ⟨g1, g2⟩ := rsign_some q
          cases g1
          have hz : a = 90 ∨ a = 122 := by
            simp at g2
            rcases g2 with h | h | h | h
            · exact Or.inl h
            · exact Or.inr h
            · exact absurd (Or.inl h) ha
            · exact absurd (Or.inr h) ha
          simp only [rzone, q, Option.bind_some, if_pos hz])
      have ha1 : ((a.toNat : Int) == 43) = false := by simpa using fun hh => ha (Or.inl ((u8_eq a 43 (by omega)).1 hh))
      have ha2 : ((a.toNat : Int) == 45) = false := by simpa using fun hh => ha (Or.inr ((u8_eq a 45 (by omega)).1 hh))
      clear ha
      go_enter Tryd.func42, Tryd.ntmps42
      go_wp2
      go_ret2
      rw [HO.out]
      exact ⟨rfl, rfl⟩
  · have hz := Lib.hid (zout_none e1 e2 h6)
    have h6' : ((l.length : Int) == 6) = false := by simp; omega
    have E1 := Lib.hid e1; clear e1
    have E2 := Lib.hid e2; clear e2
    go_enter Tryd.func42, Tryd.ntmps42
    go_wp2
    go_ret2
    rw [hz.out]
    exact ⟨rfl, rfl⟩
end Go.Proofs.YtlmjopembcifiaaDoor
