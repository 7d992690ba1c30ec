/- Contracts of package stamp: a second's text in a mail. -/
import Derived.Test.YtlmjopembcifiaaDoorStText
namespace Go.Proofs.YtlmjopembcifiaaDoor
open Go.ChangeShapes Go.WideShapes Go.ChangeAt Go.RowKit
open Civ
theorem extract_mk (l : List UInt8) (a b : Nat) : (ByteArray.mk l.toArray).extract a b = ⟨((l.drop a).take (b - a)).toArray⟩ := by
  apply ByteArray.ext
  simp [ByteArray.data_extract, List.take_drop]
/-- the name of a number, three letters -/
def nm (l : List UInt8) (i : Nat) : List UInt8 := (l.drop (3 * i)).take 3
theorem name_any (l : List UInt8) (i : Nat) (w : World) (hl : l.length ≤ 100) (hi : 3 * i + 3 ≤ l.length) :
    Calls Tryd.prog 34 #[.string ⟨l.toArray⟩, .int .i64 i] w fun e w' => e = .returned (.string ⟨(nm l i).toArray⟩) ∧ w = w' := by
  have h1 : (0 : Int) ≤ 3 * (i : Int) := by omega
  have h2 : 3 * (i : Int) + 3 ≤ (l.length : Int) := by omega
  have h3 : 3 * (i : Int) ≤ 3 * (i : Int) + 3 := by omega
  have h4 : (l.length : Int) ≤ 100 := by omega
  go_enter Tryd.func34, Tryd.ntmps34
  go_wp2
  go_ret
  rw [extract_mk, Nat.add_sub_cancel_left]
  exact ⟨rfl, rfl⟩
def dayNames : List UInt8 := [83, 117, 110, 77, 111, 110, 84, 117, 101, 87, 101, 100, 84, 104, 117, 70, 114, 105, 83, 97, 116]
def monNames : List UInt8 := [74, 97, 110, 70, 101, 98, 77, 97, 114, 65, 112, 114, 77, 97, 121, 74, 117, 110, 74, 117, 108, 65, 117, 103, 83, 101, 112, 79, 99, 116, 78, 111, 118, 68, 101, 99]
theorem nm_day (i : Nat) (h : i < 7) : (nm dayNames i).length = 3 := by
  simp only [nm, List.length_take, List.length_drop, show dayNames.length = 21 from rfl]; omega
theorem nm_mon (i : Nat) (h : i < 12) : (nm monNames i).length = 3 := by
  simp only [nm, List.length_take, List.length_drop, show monNames.length = 36 from rfl]; omega
theorem name_day (i : Int) (w : World) (h0 : 0 ≤ i) (h1 : i < 7) :
    Calls Tryd.prog 34 #[.string ⟨#[83, 117, 110, 77, 111, 110, 84, 117, 101, 87, 101, 100, 84, 104, 117, 70, 114, 105, 83, 97, 116]⟩, .int .i64 i] w fun e w' => e = .returned (.string ⟨(nm dayNames i.toNat).toArray⟩) ∧ w = w' := by
  obtain ⟨k, rfl⟩ := Int.eq_ofNat_of_zero_le h0
  exact name_any dayNames k w (by decide) (by show 3 * k + 3 ≤ 21; omega)
theorem name_mon (i : Int) (w : World) (h0 : 0 ≤ i) (h1 : i < 12) :
    Calls Tryd.prog 34 #[.string ⟨#[74, 97, 110, 70, 101, 98, 77, 97, 114, 65, 112, 114, 77, 97, 121, 74, 117, 110, 74, 117, 108, 65, 117, 103, 83, 101, 112, 79, 99, 116, 78, 111, 118, 68, 101, 99]⟩, .int .i64 i] w fun e w' => e = .returned (.string ⟨(nm monNames i.toNat).toArray⟩) ∧ w = w' := by
  obtain ⟨k, rfl⟩ := Int.eq_ofNat_of_zero_le h0
  exact name_any monNames k w (by decide) (by show 3 * k + 3 ≤ 36; omega)
/-- how far a clock is ahead, in a mail -/
def offs (o : Int) : List UInt8 := [if o < 0 then 45 else 43] ++ dig 2 (o.natAbs / 3600) ++ dig 2 (o.natAbs % 3600 / 60)
theorem offs_length (o : Int) : (offs o).length = 5 := by simp [offs, dig_length]
theorem offs_eq (c : UInt8) (a b : Nat) : (⟨#[c]⟩ ++ ⟨(dig 2 a).toArray⟩ ++ ⟨(dig 2 b).toArray⟩ : ByteArray) = ⟨([c] ++ dig 2 a ++ dig 2 b).toArray⟩ := by
  apply ByteArray.ext; simp [ByteArray.data_append]
set_option maxHeartbeats 1000000 in
theorem offset_any (o : Int) (w : World) (h0 : -93599 ≤ o) (h1 : o ≤ 93599) :
    Calls Tryd.prog 36 #[.int .i64 o] w fun e w' => e = .returned (.string ⟨(offs o).toArray⟩) ∧ w = w' := by
  have dl : ∀ k n, (dig k n).length = k := dig_length
  by_cases h : o < 0
  · obtain ⟨p, rfl⟩ : ∃ p, o = -p := ⟨-o, by omega⟩
    have q1 : 0 < p := by omega
    have q2 : p ≤ 93599 := by omega
    have e1 := Lib.hid (show (p / 3600).toNat = (-p).natAbs / 3600 by omega)
    have e2 := Lib.hid (show (p % 3600 / 60).toNat = (-p).natAbs % 3600 / 60 by omega)
    go_enter Tryd.func36, Tryd.ntmps36
    go_wp2_with fail
    refine (digits_2 _ _ (by omega) (by omega)).mono ?_
    rintro e w' ⟨rfl, rfl⟩
    go_wp2_with fail
    refine (digits_2 _ _ (by omega) (by omega)).mono ?_
    rintro e w' ⟨rfl, rfl⟩
    go_wp2
    go_ret
    rw [offs_eq]
    exact ⟨by rw [offs, if_pos (by omega), ← e1.out, ← e2.out]; rfl, rfl⟩
  · have e1 := Lib.hid (show (o / 3600).toNat = o.natAbs / 3600 by omega)
    have e2 := Lib.hid (show (o % 3600 / 60).toNat = o.natAbs % 3600 / 60 by omega)
    have q1 : 0 ≤ o := by omega
    go_enter Tryd.func36, Tryd.ntmps36
    go_wp2_with fail
    refine (digits_2 _ _ (by omega) (by omega)).mono ?_
    rintro e w' ⟨rfl, rfl⟩
    go_wp2_with fail
    refine (digits_2 _ _ (by omega) (by omega)).mono ?_
    rintro e w' ⟨rfl, rfl⟩
    go_wp2
    go_ret
    rw [offs_eq]
    exact ⟨by rw [offs, if_neg (by omega), ← e1.out, ← e2.out]; rfl, rfl⟩

/-- how a second is written in a mail: that of a clock so far ahead -/
noncomputable def mtx (u o : Int) : List UInt8 :=
  nm dayNames ((u / 86400 + 4) % 7).toNat ++ [44] ++ [32] ++ dig 2 (dy (u / 86400)).toNat ++ [32] ++ nm monNames ((mo (u / 86400)).toNat - 1) ++ [32] ++ dig 4 (yr (u / 86400)).toNat ++ [32] ++ clk (u % 86400 / 3600).toNat (u % 3600 / 60).toNat (u % 60).toNat ++ [32] ++ offs o
theorem join6 (a b c d e f : List UInt8) : Lib.join [a, b, c, d, e, f] [32] = a ++ [32] ++ b ++ [32] ++ c ++ [32] ++ d ++ [32] ++ e ++ [32] ++ f := by
  simp [Lib.join, List.intercalate]
theorem wd_cal (n : Int) (h1 : -719162 ≤ n) (h2 : n ≤ 2932896) : wd n = (n + 4) % 7 := by unfold wd; rw [if_neg (by omega)]
theorem wday_cal (n : Int) (w : World) (h1 : -719162 ≤ n) (h2 : n ≤ 2932896) :
    Calls Tryd.prog 35 #[.int .i64 n] w fun e w' => e = .returned (.int .i64 ((n + 4) % 7)) ∧ w = w' := by
  have := wday_any n w; rwa [wd_cal n h1 h2] at this
theorem join_six (a b c d e f : ByteArray) (w : World) (h : a.size + b.size + c.size + d.size + e.size + f.size ≤ 1000) :
    Calls Tryd.prog 37 #[.slice (some ⟨w.heap.size, 0, none⟩) 6 6, .string ⟨#[32]⟩] (w.alloc (.cells #[.string a, .string b, .string c, .string d, .string e, .string f] 9)) fun x w' => x = .returned (.string ⟨(a.data.toList ++ [32] ++ b.data.toList ++ [32] ++ c.data.toList ++ [32] ++ d.data.toList ++ [32] ++ e.data.toList ++ [32] ++ f.data.toList).toArray⟩) ∧ Kept (w.alloc (.cells #[.string a, .string b, .string c, .string d, .string e, .string f] 9)) w' := by
  have g0 := (Kept.refl (w.alloc (.cells #[.string a, .string b, .string c, .string d, .string e, .string f] 9)))
  have ej := join6 a.data.toList b.data.toList c.data.toList d.data.toList e.data.toList f.data.toList
  have hs : ∀ x : ByteArray, x.data.toList.length = x.size := fun x => rfl
  refine (Tryd.strings_Join w.heap.size 0 6 [a, b, c, d, e, f] ⟨#[32]⟩ _ ?_ (by simp) (by simp) (by simp) ?_).mono ?_
  · intro j x hj
    rw [Nat.zero_add]
    match j, hj with
    | 0, hj => cases hj; exact g0.new 0 rfl
    | 1, hj => cases hj; exact g0.new 1 rfl
    | 2, hj => cases hj; exact g0.new 2 rfl
    | 3, hj => cases hj; exact g0.new 3 rfl
    | 4, hj => cases hj; exact g0.new 4 rfl
    | 5, hj => cases hj; exact g0.new 5 rfl
    | n + 6, hj => simp at hj
  · show (Lib.join [a.data.toList, b.data.toList, c.data.toList, d.data.toList, e.data.toList, f.data.toList] [32]).length ≤ _
    rw [ej]
    simp only [List.length_append, hs, List.length_cons, List.length_nil]
    omega
  · rintro x w' ⟨rfl, hb⟩
    refine ⟨?_, Kept.of_below hb⟩
    show Ending.returned (.string ⟨(Lib.join [a.data.toList, b.data.toList, c.data.toList, d.data.toList, e.data.toList, f.data.toList] [32]).toArray⟩) = _
    rw [ej]
def MailPost (u o : Int) (w : World) (e : Ending) (w' : World) : Prop := Day (u / 86400) ∧ e = .returned (.tuple #[.string ⟨(mtx u o).toArray⟩, .int .i64 0]) ∧ Kept w w'
set_option maxRecDepth 100000 in
set_option maxHeartbeats 2000000 in
theorem mail_yes (t o : Int) (w : World) (h0 : -93599 ≤ o) (h1 : o ≤ 93599) (h : inCal (t + o)) (htab : Tab w) : Calls Tryd.prog 20 #[.int .i64 t, .int .i64 o] w (MailPost (t + o) o w) := by
  have dl : ∀ k n, (dig k n).length = k := dig_length
  have cl : ∀ h i s, (clk h i s).length = 8 := clk_length
  have ol : ∀ o, (offs o).length = 5 := offs_length
  have hc1 := h.1
  have hc2 := h.2
  have HC := Lib.hid h; clear h
  have HT := Lib.hid htab; clear htab
  have n1 : -719162 ≤ (t + o) / 86400 := by omega
  have n2 : (t + o) / 86400 ≤ 2932896 := by omega
  have hw3 := nm_day (((t + o) / 86400 + 4) % 7).toNat (by omega)
  go_enter Tryd.func20, Tryd.ntmps20
  go_wp2_with fail
  refine (at_yes (t + o) _ HC.out).mono ?_
  rintro e w1 ⟨hday, rfl, k1⟩
  generalize hu : t + o = u at *
  obtain ⟨b1, b2, b3, b4, b5, b6⟩ := day_bd hday
  have HD := Lib.hid hday; clear hday
  have q1 : 0 ≤ u % 86400 / 3600 ∧ u % 86400 / 3600 < 24 := by omega
  have q2 : 0 ≤ u % 3600 / 60 ∧ u % 3600 / 60 < 60 := by omega
  have q3 : 0 ≤ u % 60 ∧ u % 60 < 60 := by omega
  have hwm : IntKind.i64.wrap (mo (u / 86400) - 1) = mo (u / 86400) - 1 := by rw [IntKind.wrap_i64]; omega
  have hw4 := nm_mon (mo (u / 86400) - 1).toNat (by omega)
  have g0 := (Kept.refl (w1.alloc (.cells #[.int .i64 (yr (u / 86400)), .int .i64 (mo (u / 86400)), .int .i64 (dy (u / 86400)), .int .i64 (u % 86400 / 3600), .int .i64 (u % 3600 / 60), .int .i64 (u % 60)] 23)))
  have c0 := g0.new 0 rfl
  have c1 := g0.new 1 rfl
  have c2 := g0.new 2 rfl
  have c3 := g0.new 3 rfl
  have c4 := g0.new 4 rfl
  have c5 := g0.new 5 rfl
  have hb : w1.heap.size < (w1.alloc (.cells #[.int .i64 (yr (u / 86400)), .int .i64 (mo (u / 86400)), .int .i64 (dy (u / 86400)), .int .i64 (u % 86400 / 3600), .int .i64 (u % 3600 / 60), .int .i64 (u % 60)] 23)).heap.size := by simp
  have kw := k1.trans g0.back; clear k1 g0
  have ht := kw.tab' HT.out
  go_wp2_with fail
  refine (split_any u _ (by omega) (by omega)).mono ?_
  rintro e w2 ⟨rfl, rfl⟩
  go_wp2_with fail
  generalize w1.alloc (.cells #[.int .i64 (yr (u / 86400)), .int .i64 (mo (u / 86400)), .int .i64 (dy (u / 86400)), .int .i64 (u % 86400 / 3600), .int .i64 (u % 3600 / 60), .int .i64 (u % 60)] 23) = W at *
  go_region_held3 (fun x => Kept W x ∧ x.cell? ⟨w1.heap.size, 0, none⟩ = some (.int .i64 (yr (u / 86400))) ∧ x.cell? ⟨w1.heap.size, 1, none⟩ = some (.int .i64 (mo (u / 86400))) ∧ x.cell? ⟨w1.heap.size, 2, none⟩ = some (.int .i64 (dy (u / 86400))) ∧ x.cell? ⟨w1.heap.size, 3, none⟩ = some (.int .i64 (u % 86400 / 3600)) ∧ x.cell? ⟨w1.heap.size, 4, none⟩ = some (.int .i64 (u % 3600 / 60)) ∧ x.cell? ⟨w1.heap.size, 5, none⟩ = some (.int .i64 (u % 60)) ∧ Tab x)
    (first | exact held6 (by assumption) (by assumption) hb | exact held6 ((Kept.refl _).alloc _) (by assumption) hb | assumption | exact ⟨(Kept.refl W).drew, c0, c1, c2, c3, c4, c5, ht⟩)
    (first | (go_at_call_of 32 (Value.int IntKind.i64 4); refine (digits_4 _ _ (by omega) (by omega) (by go_split_ands; assumption)).mono ?_; rintro e w' ⟨rfl, hk'⟩)
           | (go_at_call 32; refine (digits_2 _ _ (by omega) (by omega)).mono ?_; rintro e w' ⟨rfl, rfl⟩)
           | (go_at_call 33; refine (clock_any _ _ _ _ _ _ _ (by omega) (by omega) (by omega) (by omega) (by omega) (by omega)).mono ?_; rintro e w' ⟨rfl, hk'⟩)
           | (go_at_call 35; refine (wday_cal _ _ (by omega) (by omega)).mono ?_; rintro e w' ⟨rfl, rfl⟩)
           | (go_at_call_of 34 (Value.string ⟨#[83, 117, 110, 77, 111, 110, 84, 117, 101, 87, 101, 100, 84, 104, 117, 70, 114, 105, 83, 97, 116]⟩); refine (name_day _ _ (by omega) (by omega)).mono ?_; rintro e w' ⟨rfl, rfl⟩)
           | (go_at_call 34; refine (name_mon _ _ (by omega) (by omega)).mono ?_; rintro e w' ⟨rfl, rfl⟩)
           | (go_at_call 36; refine (offset_any _ _ (by omega) (by omega)).mono ?_; rintro e w' ⟨rfl, rfl⟩))
  have hK := (‹Kept W _ ∧ _›).1
  go_wp2_with fail
  refine (join_six _ _ _ _ _ _ _ (by simp only [ByteArray.size_append', ByteArray.size_mk', List.size_toArray, dl, cl, ol, hw3, show (nm monNames ((mo (u / 86400)).toNat - 1)).length = 3 from nm_mon _ (by omega)]; decide)).mono ?_
  rintro e w2 ⟨rfl, k2⟩
  go_wp2
  go_ret2
  exact ⟨HD.out, by simp [mtx], (kw.trans hK).trans k2⟩
theorem mail_off (t o : Int) (w : World) (h : o < -93599 ∨ 93599 < o) :
    Calls Tryd.prog 20 #[.int .i64 t, .int .i64 o] w fun e w' => e = .returned (.tuple #[.string ⟨#[]⟩, .int .i64 1]) ∧ w = w' := by
  rcases h with h | h
  · go_enter Tryd.func20, Tryd.ntmps20
    go_wp2
    go_ret2
    exact ⟨rfl, rfl⟩
  · have h' : decide (o < -93599) = false := decide_eq_false (by omega)
    go_enter Tryd.func20, Tryd.ntmps20
    go_wp2
    go_ret2
    exact ⟨rfl, rfl⟩
/-- in the kinds of Go: their sum, cut to a word -/
theorem mail_not (t o : Int) (w : World) (h0 : -93599 ≤ o) (h1 : o ≤ 93599) (t0 : -9223372036854775808 ≤ t) (t1 : t ≤ 9223372036854775807) (h : ¬ inCal (t + o)) :
    Calls Tryd.prog 20 #[.int .i64 t, .int .i64 o] w fun e w' => e = .returned (.tuple #[.string ⟨#[]⟩, .int .i64 1]) ∧ Kept w w' := by
  have d0 : decide (o < -93599) = false := decide_eq_false (by omega)
  have d1 : decide (93599 < o) = false := decide_eq_false (by omega)
  have hx : ∃ u, wrap64 (t + o) = u ∧ -9223372036854775808 ≤ u ∧ u ≤ 9223372036854775807 ∧ ¬ inCal u := by
    refine ⟨_, rfl, ?_⟩
    unfold inCal at h ⊢
    unfold wrap64
    omega
  obtain ⟨u, hu, u0, u1, hn⟩ := hx
  have HC := Lib.hid hn; clear hn h
  clear t0 t1 h0 h1
  go_enter Tryd.func20, Tryd.ntmps20
  go_wp2_with fail
  refine (at_not u _ u0 u1 HC.out).mono ?_
  rintro e w1 ⟨rfl, k1⟩
  go_wp2
  go_ret2
  exact ⟨rfl, k1.alloc _⟩
end Go.Proofs.YtlmjopembcifiaaDoor
