/- Contracts of package stamp: a second's text. -/
import Derived.Test.YtlmjopembcifiaaDoorStFns
import Derived.Deep.RegionHeld3
namespace Go.Proofs.YtlmjopembcifiaaDoor
open Go.ChangeShapes Go.WideShapes Go.ChangeAt Go.RowKit
open Civ

/-- two digits: memory is as it was -/
theorem digits_2 (n : Int) (w : World) (h0 : 0 ≤ n) (h1 : n < 100) :
    Calls Tryd.prog 32 #[.int .i64 n, .int .i64 2] w fun e w' => e = .returned (.string ⟨(dig 2 n.toNat).toArray⟩) ∧ w = w' := by
  obtain ⟨k, rfl⟩ := Int.eq_ofNat_of_zero_le h0
  have hk : k < 100 := by omega
  rw [show ((k : Nat) : Int).toNat = k by omega]
  by_cases h10 : k < 10
  · have hlen : (Lib.decDigits k).length = 1 := by rw [Lib.decDigits_one h10]; rfl
    have hp := dig_pad 2 k (by omega) (by omega)
    have HP := Lib.hid (show [48] ++ Lib.decDigits k = dig 2 k by rw [← hp, hlen]; rfl); clear hp
    clear h0 h1
    have HK := Lib.hid hk; clear hk
    have H10 := Lib.hid h10; clear h10
    go_enter Tryd.func32, Tryd.ntmps32
    go_wp2_with fail
    refine (Tryd.strconv_Itoa_small k HK.out _).mono ?_
    rintro e w1 ⟨rfl, rfl⟩
    go_wp2_with fail
    refine (Tryd.strings_Repeat_one ⟨#[48]⟩ _).mono ?_
    rintro e w2 ⟨rfl, rfl⟩
    go_wp2
    go_ret
    exact ⟨by rw [← HP.out, ← ByteArray.mk_append_mk]; rfl, rfl⟩
  · have hlen : (Lib.decDigits k).length = 2 := by rw [Lib.decDigits_two h10 hk]; rfl
    have hp := dig_pad 2 k (by omega) (by omega)
    have HP := Lib.hid (show [] ++ Lib.decDigits k = dig 2 k by rw [← hp, hlen]; rfl); clear hp
    clear h0 h1
    have HK := Lib.hid hk; clear hk
    have H10 := Lib.hid h10; clear h10
    go_enter Tryd.func32, Tryd.ntmps32
    go_wp2_with fail
    refine (Tryd.strconv_Itoa_small k HK.out _).mono ?_
    rintro e w1 ⟨rfl, rfl⟩
    go_wp2_with fail
    refine (Tryd.strings_Repeat_zero ⟨#[48]⟩ _).mono ?_
    rintro e w2 ⟨rfl, rfl⟩
    go_wp2
    go_ret
    exact ⟨by rw [← HP.out, ← ByteArray.mk_append_mk]; rfl, rfl⟩
theorem digits_4 (n : Int) (w : World) (h0 : 0 ≤ n) (h1 : n < 10000) (htab : Tab w) :
    Calls Tryd.prog 32 #[.int .i64 n, .int .i64 4] w fun e w' => e = .returned (.string ⟨(dig 4 n.toNat).toArray⟩) ∧ Kept w w' := by
  obtain ⟨k, rfl⟩ := Int.eq_ofNat_of_zero_le h0
  exact digits_any k 4 w (by omega) (by omega) (by omega) htab

/-- the time of a day -/
def clk (h i s : Nat) : List UInt8 := dig 2 h ++ [58] ++ dig 2 i ++ [58] ++ dig 2 s
theorem clk_eq (h i s : Nat) : (⟨(dig 2 h).toArray⟩ ++ ⟨#[58]⟩ ++ ⟨(dig 2 i).toArray⟩ ++ ⟨#[58]⟩ ++ ⟨(dig 2 s).toArray⟩ : ByteArray) = ⟨(clk h i s).toArray⟩ := by
  apply ByteArray.ext; simp [ByteArray.data_append, clk]
theorem clk_length (h i s : Nat) : (clk h i s).length = 8 := by simp [clk, dig_length]
set_option maxRecDepth 100000 in
set_option maxHeartbeats 1000000 in
theorem clock_any (y m d h i s : Int) (w : World) (h0 : 0 ≤ h) (h1 : h < 100) (i0 : 0 ≤ i) (i1 : i < 100) (s0 : 0 ≤ s) (s1 : s < 100) :
    Calls Tryd.prog 33 #[civ y m d h i s] w fun e w' => e = .returned (.string ⟨(clk h.toNat i.toNat s.toNat).toArray⟩) ∧ Kept w w' := by
  have dl : ∀ k n, (dig k n).length = k := dig_length
  have hk := ((Kept.refl w).alloc (.cells #[.int .i64 y, .int .i64 m, .int .i64 d, .int .i64 h, .int .i64 i, .int .i64 s] 23))
  have c3 := (Kept.refl (w.alloc (.cells #[.int .i64 y, .int .i64 m, .int .i64 d, .int .i64 h, .int .i64 i, .int .i64 s] 23))).new 3 rfl
  have c4 := (Kept.refl (w.alloc (.cells #[.int .i64 y, .int .i64 m, .int .i64 d, .int .i64 h, .int .i64 i, .int .i64 s] 23))).new 4 rfl
  have c5 := (Kept.refl (w.alloc (.cells #[.int .i64 y, .int .i64 m, .int .i64 d, .int .i64 h, .int .i64 i, .int .i64 s] 23))).new 5 rfl
  go_enter Tryd.func33, Tryd.ntmps33
  go_wp2_with fail
  generalize hw : w.alloc (.cells #[.int .i64 y, .int .i64 m, .int .i64 d, .int .i64 h, .int .i64 i, .int .i64 s] 23) = W at *
  clear hw
  go_region_held3 (fun x => Kept w x ∧ x.cell? ⟨w.heap.size, 3, none⟩ = some (.int .i64 h) ∧ x.cell? ⟨w.heap.size, 4, none⟩ = some (.int .i64 i) ∧ x.cell? ⟨w.heap.size, 5, none⟩ = some (.int .i64 s)) (first | exact ⟨hk.drew, c3, c4, c5⟩ | assumption)
    (first | (go_at_call 32; refine (digits_2 _ _ (by omega) (by omega)).mono ?_; rintro e w' ⟨rfl, rfl⟩))
  go_wp2
  go_ret
  rw [clk_eq]
  exact ⟨rfl, hk.drew⟩

/-- how a second is written -/
noncomputable def txt (t : Int) : List UInt8 :=
  dig 4 (yr (t / 86400)).toNat ++ [45] ++ dig 2 (mo (t / 86400)).toNat ++ [45] ++ dig 2 (dy (t / 86400)).toNat ++ [84] ++ clk (t % 86400 / 3600).toNat (t % 3600 / 60).toNat (t % 60).toNat ++ [90]
theorem txt_length (t : Int) : (txt t).length = 20 := by simp [txt, dig_length, clk_length]
theorem txt_eq (y m d : Nat) (c : List UInt8) : (⟨(dig 4 y).toArray⟩ ++ ⟨#[45]⟩ ++ ⟨(dig 2 m).toArray⟩ ++ ⟨#[45]⟩ ++ ⟨(dig 2 d).toArray⟩ ++ ⟨#[84]⟩ ++ ⟨c.toArray⟩ ++ ⟨#[90]⟩ : ByteArray) = ⟨(dig 4 y ++ [45] ++ dig 2 m ++ [45] ++ dig 2 d ++ [84] ++ c ++ [90]).toArray⟩ := by
  apply ByteArray.ext; simp [ByteArray.data_append]
/-- six cells, and the table, read as they did -/
theorem held6 {W x x' : World} {b : Nat} {y m d h i s : Int} (k : Kept x x') (H : Kept W x ∧ x.cell? ⟨b, 0, none⟩ = some (.int .i64 y) ∧ x.cell? ⟨b, 1, none⟩ = some (.int .i64 m) ∧ x.cell? ⟨b, 2, none⟩ = some (.int .i64 d) ∧ x.cell? ⟨b, 3, none⟩ = some (.int .i64 h) ∧ x.cell? ⟨b, 4, none⟩ = some (.int .i64 i) ∧ x.cell? ⟨b, 5, none⟩ = some (.int .i64 s) ∧ Tab x) (hb : b < W.heap.size) :
    Kept W x' ∧ x'.cell? ⟨b, 0, none⟩ = some (.int .i64 y) ∧ x'.cell? ⟨b, 1, none⟩ = some (.int .i64 m) ∧ x'.cell? ⟨b, 2, none⟩ = some (.int .i64 d) ∧ x'.cell? ⟨b, 3, none⟩ = some (.int .i64 h) ∧ x'.cell? ⟨b, 4, none⟩ = some (.int .i64 i) ∧ x'.cell? ⟨b, 5, none⟩ = some (.int .i64 s) ∧ Tab x' := by
  obtain ⟨h0, h1, h2, h3, h4, h5, h6, h7⟩ := H
  have hb' : b < x.heap.size := Nat.lt_of_lt_of_le hb h0.size
  exact ⟨h0.trans k, (k.cell (a := ⟨b, 0, none⟩) hb').trans h1, (k.cell (a := ⟨b, 1, none⟩) hb').trans h2, (k.cell (a := ⟨b, 2, none⟩) hb').trans h3, (k.cell (a := ⟨b, 3, none⟩) hb').trans h4, (k.cell (a := ⟨b, 4, none⟩) hb').trans h5, (k.cell (a := ⟨b, 5, none⟩) hb').trans h6, k.tab' h7⟩
def TextPost (t : Int) (w : World) (e : Ending) (w' : World) : Prop := Day (t / 86400) ∧ e = .returned (.tuple #[.string ⟨(txt t).toArray⟩, .int .i64 0]) ∧ Kept w w'
theorem day_bd {n : Int} (h : Day n) : 1 ≤ yr n ∧ yr n ≤ 9999 ∧ 1 ≤ mo n ∧ mo n ≤ 12 ∧ 1 ≤ dy n ∧ dy n ≤ 31 := by
  obtain ⟨⟨h1, h2, h3, h4⟩, _⟩ := h
  have := ok_month h3 h4
  have := dim_bd (yr n) (mo n)
  omega
set_option maxRecDepth 100000 in
set_option maxHeartbeats 1000000 in
theorem text_yes (t : Int) (w : World) (h : inCal t) (htab : Tab w) : Calls Tryd.prog 18 #[.int .i64 t] w (TextPost t w) := by
  have dl : ∀ k n, (dig k n).length = k := dig_length
  have cl : ∀ h i s, (clk h i s).length = 8 := clk_length
  have HC := Lib.hid h; clear h
  have HT := Lib.hid htab; clear htab
  go_enter Tryd.func18, Tryd.ntmps18
  go_wp2_with fail
  refine (at_yes t _ HC.out).mono ?_
  rintro e w1 ⟨hday, rfl, k1⟩
  obtain ⟨b1, b2, b3, b4, b5, b6⟩ := day_bd hday
  have HD := Lib.hid hday; clear hday
  have q1 : 0 ≤ t % 86400 / 3600 ∧ t % 86400 / 3600 < 24 := by omega
  have q2 : 0 ≤ t % 3600 / 60 ∧ t % 3600 / 60 < 60 := by omega
  have q3 : 0 ≤ t % 60 ∧ t % 60 < 60 := by omega
  have g0 := (Kept.refl (w1.alloc (.cells #[.int .i64 (yr (t / 86400)), .int .i64 (mo (t / 86400)), .int .i64 (dy (t / 86400)), .int .i64 (t % 86400 / 3600), .int .i64 (t % 3600 / 60), .int .i64 (t % 60)] 23)))
  have c0 := g0.new 0 rfl
  have c1 := g0.new 1 rfl
  have c2 := g0.new 2 rfl
  have c3 := g0.new 3 rfl
  have c4 := g0.new 4 rfl
  have c5 := g0.new 5 rfl
  have hb : w1.heap.size < (w1.alloc (.cells #[.int .i64 (yr (t / 86400)), .int .i64 (mo (t / 86400)), .int .i64 (dy (t / 86400)), .int .i64 (t % 86400 / 3600), .int .i64 (t % 3600 / 60), .int .i64 (t % 60)] 23)).heap.size := by simp
  have kw := k1.trans g0.back; clear k1 g0
  have ht := kw.tab' HT.out
  go_wp2_with fail
  generalize w1.alloc (.cells #[.int .i64 (yr (t / 86400)), .int .i64 (mo (t / 86400)), .int .i64 (dy (t / 86400)), .int .i64 (t % 86400 / 3600), .int .i64 (t % 3600 / 60), .int .i64 (t % 60)] 23) = W at *
  go_region_held3 (fun x => Kept W x ∧ x.cell? ⟨w1.heap.size, 0, none⟩ = some (.int .i64 (yr (t / 86400))) ∧ x.cell? ⟨w1.heap.size, 1, none⟩ = some (.int .i64 (mo (t / 86400))) ∧ x.cell? ⟨w1.heap.size, 2, none⟩ = some (.int .i64 (dy (t / 86400))) ∧ x.cell? ⟨w1.heap.size, 3, none⟩ = some (.int .i64 (t % 86400 / 3600)) ∧ x.cell? ⟨w1.heap.size, 4, none⟩ = some (.int .i64 (t % 3600 / 60)) ∧ x.cell? ⟨w1.heap.size, 5, none⟩ = some (.int .i64 (t % 60)) ∧ Tab x)
    (first | exact held6 (by assumption) (by assumption) hb | assumption | exact ⟨(Kept.refl W).drew, c0, c1, c2, c3, c4, c5, ht⟩)
    (first | (go_at_call_of 32 (Value.int IntKind.i64 4); refine (digits_4 _ _ (by omega) (by omega) (by go_split_ands; assumption)).mono ?_; rintro e w' ⟨rfl, hk'⟩)
           | (go_at_call 32; refine (digits_2 _ _ (by omega) (by omega)).mono ?_; rintro e w' ⟨rfl, rfl⟩)
           | (go_at_call 33; refine (clock_any _ _ _ _ _ _ _ (by omega) (by omega) (by omega) (by omega) (by omega) (by omega)).mono ?_; rintro e w' ⟨rfl, hk'⟩))
  have hK := (‹Kept W _ ∧ _›).1
  go_wp2
  go_ret2
  exact ⟨HD.out, by rw [txt, ← txt_eq]; rfl, kw.trans hK⟩
theorem text_not (t : Int) (w : World) (h1 : -9223372036854775808 ≤ t) (h2 : t ≤ 9223372036854775807) (h : ¬ inCal t) :
    Calls Tryd.prog 18 #[.int .i64 t] w fun e w' => e = .returned (.tuple #[.string ⟨#[]⟩, .int .i64 1]) ∧ Kept w w' := by
  have HC := Lib.hid h; clear h
  go_enter Tryd.func18, Tryd.ntmps18
  go_wp2_with fail
  refine (at_not t _ h1 h2 HC.out).mono ?_
  rintro e w1 ⟨rfl, k1⟩
  go_wp2
  go_ret2
  exact ⟨rfl, k1.alloc _⟩
end Go.Proofs.YtlmjopembcifiaaDoor
