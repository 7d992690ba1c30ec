/- Contracts of the document's answers for layer 2: mails. -/
import Derived.Test.YtlmjopembcifiaaDoorStRefT
namespace Go.Proofs.YtlmjopembcifiaaDoor
open Go.ChangeShapes Go.WideShapes Go.ChangeAt Go.RowKit
open Civ
set_option maxRecDepth 100000 in
set_option maxHeartbeats 4000000 in
theorem rmail_pos (t p : Int) (w : World) (h0 : 0 ≤ p) (h1 : p ≤ 93599) (h : inCal (t + p)) : Calls Tryd.prog 21 #[.int .i64 t, .int .i64 p] w (MailPost (t + p) p w) := by
  have dl : ∀ k n, (dig k n).length = k := dig_length
  have hc1 := h.1
  have hc2 := h.2
  have HC := Lib.hid h; clear h
  have n1 : -719162 ≤ (t + p) / 86400 := by omega
  have n2 : (t + p) / 86400 ≤ 2932896 := by omega
  have hw3 := nm_day (((t + p) / 86400 + 4) % 7).toNat (by omega)
  have E1 := Lib.hid (show (p / 3600).toNat = (p : Int).natAbs / 3600 by omega)
  have E2 := Lib.hid (show (p / 60 % 60).toNat = (p : Int).natAbs % 3600 / 60 by omega)
  have hq1 : IntKind.i64.wrap (p.tdiv 3600) = p / 3600 := by rw [IntKind.wrap_i64, Int.tdiv_eq_ediv_of_nonneg (by omega)]; omega
  have hq2 : IntKind.i64.wrap (p.tdiv 60) = p / 60 := by rw [IntKind.wrap_i64, Int.tdiv_eq_ediv_of_nonneg (by omega)]; omega
  have hq3 : (p / 60).tmod 60 = p / 60 % 60 := Int.tmod_eq_emod_of_nonneg (by omega)
  have HSG := Lib.hid (show ¬ p < 0 by omega)
  go_enter Tryd.func21, Tryd.ntmps21
  go_wp2_with fail
  refine (rat_yes (t + p) _ HC.out).mono ?_
  rintro e w1 ⟨hday, rfl, k1⟩
  generalize hu : t + p = u at *
  obtain ⟨b1, b2, b3, b4, b5, b6⟩ := day_bd hday
  have HD := Lib.hid hday; clear hday
  have q1 : 0 ≤ u % 86400 / 3600 ∧ u % 86400 / 3600 < 24 := by omega
  have q2 : 0 ≤ u % 3600 / 60 ∧ u % 3600 / 60 < 60 := by omega
  have q3 : 0 ≤ u % 60 ∧ u % 60 < 60 := by omega
  have hwm : IntKind.i64.wrap (mo (u / 86400) - 1) = mo (u / 86400) - 1 := by rw [IntKind.wrap_i64]; omega
  have hw4 := nm_mon (mo (u / 86400) - 1).toNat (by omega)
  have hw5 := nm_mon ((mo (u / 86400)).toNat - 1) (by omega)
  have g0 := (Kept.refl (w1.alloc (.cells #[.int .i64 (yr (u / 86400)), .int .i64 (mo (u / 86400)), .int .i64 (dy (u / 86400)), .int .i64 (u % 86400 / 3600), .int .i64 (u % 3600 / 60), .int .i64 (u % 60)] 23)))
  have c0 := g0.new 0 rfl
  have c1 := g0.new 1 rfl
  have c2 := g0.new 2 rfl
  have c3 := g0.new 3 rfl
  have c4 := g0.new 4 rfl
  have c5 := g0.new 5 rfl
  have kw := k1.trans g0.back; clear k1 g0
  go_wp2_with fail
  refine (rfloor_any u _ (by omega) (by omega)).mono ?_
  rintro e w2 ⟨rfl, rfl⟩
  go_wp2_with fail
  generalize w1.alloc (.cells #[.int .i64 (yr (u / 86400)), .int .i64 (mo (u / 86400)), .int .i64 (dy (u / 86400)), .int .i64 (u % 86400 / 3600), .int .i64 (u % 3600 / 60), .int .i64 (u % 60)] 23) = W at *
  go_region_held3 (fun x => Kept W x ∧ x.cell? ⟨w1.heap.size, 0, none⟩ = some (.int .i64 (yr (u / 86400))) ∧ x.cell? ⟨w1.heap.size, 1, none⟩ = some (.int .i64 (mo (u / 86400))) ∧ x.cell? ⟨w1.heap.size, 2, none⟩ = some (.int .i64 (dy (u / 86400))) ∧ x.cell? ⟨w1.heap.size, 3, none⟩ = some (.int .i64 (u % 86400 / 3600)) ∧ x.cell? ⟨w1.heap.size, 4, none⟩ = some (.int .i64 (u % 3600 / 60)) ∧ x.cell? ⟨w1.heap.size, 5, none⟩ = some (.int .i64 (u % 60)))
    (first | assumption | exact ⟨(Kept.refl W).drew, c0, c1, c2, c3, c4, c5⟩)
    (first | (go_at_call_of 24 (Value.int IntKind.i64 4); refine (rdigits_4 _ _ (by omega) (by omega)).mono ?_; rintro e w' ⟨rfl, rfl⟩)
           | (go_at_call 24; refine (rdigits_2 _ _ (by omega) (by omega)).mono ?_; rintro e w' ⟨rfl, rfl⟩)
           | (go_at_call 39; refine (rwday_cal _ _ (by omega) (by omega)).mono ?_; rintro e w' ⟨rfl, rfl⟩)
           | (go_at_call_of 38 (Value.string ⟨#[83, 117, 110, 77, 111, 110, 84, 117, 101, 87, 101, 100, 84, 104, 117, 70, 114, 105, 83, 97, 116]⟩); refine (rname_day _ _ (by omega) (by omega)).mono ?_; rintro e w' ⟨rfl, rfl⟩)
           | (go_at_call 38; refine (rname_mon _ _ (by omega) (by omega)).mono ?_; rintro e w' ⟨rfl, rfl⟩))
  go_wp2_with fail
  obtain ⟨hK, d0, d1, d2, d3, d4, d5⟩ := ‹Kept W _ ∧ _›
  have HS := Lib.hid (show (⟨(nm dayNames ((u / 86400 + 4) % 7).toNat).toArray⟩ ++ ⟨#[44, 32]⟩ ++ ⟨(dig 2 (dy (u / 86400)).toNat).toArray⟩ ++ ⟨#[32]⟩ ++ ⟨(nm monNames ((mo (u / 86400)).toNat - 1)).toArray⟩ ++ ⟨#[32]⟩ ++ ⟨(dig 4 (yr (u / 86400)).toNat).toArray⟩ : ByteArray) = ⟨(nm dayNames ((u / 86400 + 4) % 7).toNat ++ [44] ++ [32] ++ dig 2 (dy (u / 86400)).toNat ++ [32] ++ nm monNames ((mo (u / 86400)).toNat - 1) ++ [32] ++ dig 4 (yr (u / 86400)).toNat).toArray⟩ by apply ByteArray.ext; simp [ByteArray.data_append])
  have hD : (⟨(nm dayNames ((u / 86400 + 4) % 7).toNat).toArray⟩ ++ ⟨#[44, 32]⟩ ++ ⟨(dig 2 (dy (u / 86400)).toNat).toArray⟩ ++ ⟨#[32]⟩ ++ ⟨(nm monNames ((mo (u / 86400)).toNat - 1)).toArray⟩ ++ ⟨#[32]⟩ ++ ⟨(dig 4 (yr (u / 86400)).toNat).toArray⟩ : ByteArray).size = 16 := by simp [ByteArray.size_mk', dl, hw3, hw5]
  generalize (⟨(nm dayNames ((u / 86400 + 4) % 7).toNat).toArray⟩ ++ ⟨#[44, 32]⟩ ++ ⟨(dig 2 (dy (u / 86400)).toNat).toArray⟩ ++ ⟨#[32]⟩ ++ ⟨(nm monNames ((mo (u / 86400)).toNat - 1)).toArray⟩ ++ ⟨#[32]⟩ ++ ⟨(dig 4 (yr (u / 86400)).toNat).toArray⟩ : ByteArray) = D at *
  clear c0 c1 c2 c3 c4 c5 hw3 hw4 hw5 hwm
  go_region_held3 (fun x => Kept W x ∧ x.cell? ⟨w1.heap.size, 3, none⟩ = some (.int .i64 (u % 86400 / 3600)) ∧ x.cell? ⟨w1.heap.size, 4, none⟩ = some (.int .i64 (u % 3600 / 60)) ∧ x.cell? ⟨w1.heap.size, 5, none⟩ = some (.int .i64 (u % 60)))
    (first | assumption | exact ⟨hK.drew, d3, d4, d5⟩)
    (first | (go_at_call 24; refine (rdigits_2 _ _ (by omega) (by omega)).mono ?_; rintro e w' ⟨rfl, rfl⟩))
  have hK2 := (‹Kept W _ ∧ _›).1
  have hfin : (D ++ ⟨#[32]⟩ ++ ⟨(dig 2 (u % 86400 / 3600).toNat).toArray⟩ ++ ⟨#[58]⟩ ++ ⟨(dig 2 (u % 3600 / 60).toNat).toArray⟩ ++ ⟨#[58]⟩ ++ ⟨(dig 2 (u % 60).toNat).toArray⟩ ++ ⟨#[32]⟩ ++ ⟨#[43]⟩ ++ ⟨(dig 2 (p / 3600).toNat).toArray⟩ ++ ⟨(dig 2 (p / 60 % 60).toNat).toArray⟩ : ByteArray) = ⟨(mtx u p).toArray⟩ := by
    rw [HS.out, E1.out, E2.out]
    apply ByteArray.ext
    simp [ByteArray.data_append, mtx, clk, offs, HSG.out]
  have HF := Lib.hid hfin; clear hfin
  go_wp2
  rw [HF.out]
  go_ret2
  exact ⟨HD.out, rfl, kw.trans hK2⟩
set_option maxRecDepth 100000 in
set_option maxHeartbeats 4000000 in
theorem rmail_neg (t p : Int) (w : World) (h0 : 1 ≤ p) (h1 : p ≤ 93599) (h : inCal (t + (-p))) : Calls Tryd.prog 21 #[.int .i64 t, .int .i64 (-p)] w (MailPost (t + (-p)) (-p) w) := by
  have dl : ∀ k n, (dig k n).length = k := dig_length
  have hc1 := h.1
  have hc2 := h.2
  have HC := Lib.hid h; clear h
  have n1 : -719162 ≤ (t + (-p)) / 86400 := by omega
  have n2 : (t + (-p)) / 86400 ≤ 2932896 := by omega
  have hw3 := nm_day (((t + (-p)) / 86400 + 4) % 7).toNat (by omega)
  have E1 := Lib.hid (show (p / 3600).toNat = ((-p) : Int).natAbs / 3600 by omega)
  have E2 := Lib.hid (show (p / 60 % 60).toNat = ((-p) : Int).natAbs % 3600 / 60 by omega)
  have hq1 : IntKind.i64.wrap (p.tdiv 3600) = p / 3600 := by rw [IntKind.wrap_i64, Int.tdiv_eq_ediv_of_nonneg (by omega)]; omega
  have hq2 : IntKind.i64.wrap (p.tdiv 60) = p / 60 := by rw [IntKind.wrap_i64, Int.tdiv_eq_ediv_of_nonneg (by omega)]; omega
  have hq3 : (p / 60).tmod 60 = p / 60 % 60 := Int.tmod_eq_emod_of_nonneg (by omega)
  have HSG := Lib.hid (show 0 < p by omega)
  go_enter Tryd.func21, Tryd.ntmps21
  go_wp2_with fail
  refine (rat_yes (t + (-p)) _ HC.out).mono ?_
  rintro e w1 ⟨hday, rfl, k1⟩
  generalize hu : t + (-p) = u at *
  obtain ⟨b1, b2, b3, b4, b5, b6⟩ := day_bd hday
  have HD := Lib.hid hday; clear hday
  have q1 : 0 ≤ u % 86400 / 3600 ∧ u % 86400 / 3600 < 24 := by omega
  have q2 : 0 ≤ u % 3600 / 60 ∧ u % 3600 / 60 < 60 := by omega
  have q3 : 0 ≤ u % 60 ∧ u % 60 < 60 := by omega
  have hwm : IntKind.i64.wrap (mo (u / 86400) - 1) = mo (u / 86400) - 1 := by rw [IntKind.wrap_i64]; omega
  have hw4 := nm_mon (mo (u / 86400) - 1).toNat (by omega)
  have hw5 := nm_mon ((mo (u / 86400)).toNat - 1) (by omega)
  have g0 := (Kept.refl (w1.alloc (.cells #[.int .i64 (yr (u / 86400)), .int .i64 (mo (u / 86400)), .int .i64 (dy (u / 86400)), .int .i64 (u % 86400 / 3600), .int .i64 (u % 3600 / 60), .int .i64 (u % 60)] 23)))
  have c0 := g0.new 0 rfl
  have c1 := g0.new 1 rfl
  have c2 := g0.new 2 rfl
  have c3 := g0.new 3 rfl
  have c4 := g0.new 4 rfl
  have c5 := g0.new 5 rfl
  have kw := k1.trans g0.back; clear k1 g0
  go_wp2_with fail
  refine (rfloor_any u _ (by omega) (by omega)).mono ?_
  rintro e w2 ⟨rfl, rfl⟩
  go_wp2_with fail
  generalize w1.alloc (.cells #[.int .i64 (yr (u / 86400)), .int .i64 (mo (u / 86400)), .int .i64 (dy (u / 86400)), .int .i64 (u % 86400 / 3600), .int .i64 (u % 3600 / 60), .int .i64 (u % 60)] 23) = W at *
  go_region_held3 (fun x => Kept W x ∧ x.cell? ⟨w1.heap.size, 0, none⟩ = some (.int .i64 (yr (u / 86400))) ∧ x.cell? ⟨w1.heap.size, 1, none⟩ = some (.int .i64 (mo (u / 86400))) ∧ x.cell? ⟨w1.heap.size, 2, none⟩ = some (.int .i64 (dy (u / 86400))) ∧ x.cell? ⟨w1.heap.size, 3, none⟩ = some (.int .i64 (u % 86400 / 3600)) ∧ x.cell? ⟨w1.heap.size, 4, none⟩ = some (.int .i64 (u % 3600 / 60)) ∧ x.cell? ⟨w1.heap.size, 5, none⟩ = some (.int .i64 (u % 60)))
    (first | assumption | exact ⟨(Kept.refl W).drew, c0, c1, c2, c3, c4, c5⟩)
    (first | (go_at_call_of 24 (Value.int IntKind.i64 4); refine (rdigits_4 _ _ (by omega) (by omega)).mono ?_; rintro e w' ⟨rfl, rfl⟩)
           | (go_at_call 24; refine (rdigits_2 _ _ (by omega) (by omega)).mono ?_; rintro e w' ⟨rfl, rfl⟩)
           | (go_at_call 39; refine (rwday_cal _ _ (by omega) (by omega)).mono ?_; rintro e w' ⟨rfl, rfl⟩)
           | (go_at_call_of 38 (Value.string ⟨#[83, 117, 110, 77, 111, 110, 84, 117, 101, 87, 101, 100, 84, 104, 117, 70, 114, 105, 83, 97, 116]⟩); refine (rname_day _ _ (by omega) (by omega)).mono ?_; rintro e w' ⟨rfl, rfl⟩)
           | (go_at_call 38; refine (rname_mon _ _ (by omega) (by omega)).mono ?_; rintro e w' ⟨rfl, rfl⟩))
  go_wp2_with fail
  obtain ⟨hK, d0, d1, d2, d3, d4, d5⟩ := ‹Kept W _ ∧ _›
  have HS := Lib.hid (show (⟨(nm dayNames ((u / 86400 + 4) % 7).toNat).toArray⟩ ++ ⟨#[44, 32]⟩ ++ ⟨(dig 2 (dy (u / 86400)).toNat).toArray⟩ ++ ⟨#[32]⟩ ++ ⟨(nm monNames ((mo (u / 86400)).toNat - 1)).toArray⟩ ++ ⟨#[32]⟩ ++ ⟨(dig 4 (yr (u / 86400)).toNat).toArray⟩ : ByteArray) = ⟨(nm dayNames ((u / 86400 + 4) % 7).toNat ++ [44] ++ [32] ++ dig 2 (dy (u / 86400)).toNat ++ [32] ++ nm monNames ((mo (u / 86400)).toNat - 1) ++ [32] ++ dig 4 (yr (u / 86400)).toNat).toArray⟩ by apply ByteArray.ext; simp [ByteArray.data_append])
  have hD : (⟨(nm dayNames ((u / 86400 + 4) % 7).toNat).toArray⟩ ++ ⟨#[44, 32]⟩ ++ ⟨(dig 2 (dy (u / 86400)).toNat).toArray⟩ ++ ⟨#[32]⟩ ++ ⟨(nm monNames ((mo (u / 86400)).toNat - 1)).toArray⟩ ++ ⟨#[32]⟩ ++ ⟨(dig 4 (yr (u / 86400)).toNat).toArray⟩ : ByteArray).size = 16 := by simp [ByteArray.size_mk', dl, hw3, hw5]
  generalize (⟨(nm dayNames ((u / 86400 + 4) % 7).toNat).toArray⟩ ++ ⟨#[44, 32]⟩ ++ ⟨(dig 2 (dy (u / 86400)).toNat).toArray⟩ ++ ⟨#[32]⟩ ++ ⟨(nm monNames ((mo (u / 86400)).toNat - 1)).toArray⟩ ++ ⟨#[32]⟩ ++ ⟨(dig 4 (yr (u / 86400)).toNat).toArray⟩ : ByteArray) = D at *
  clear c0 c1 c2 c3 c4 c5 hw3 hw4 hw5 hwm
  go_region_held3 (fun x => Kept W x ∧ x.cell? ⟨w1.heap.size, 3, none⟩ = some (.int .i64 (u % 86400 / 3600)) ∧ x.cell? ⟨w1.heap.size, 4, none⟩ = some (.int .i64 (u % 3600 / 60)) ∧ x.cell? ⟨w1.heap.size, 5, none⟩ = some (.int .i64 (u % 60)))
    (first | assumption | exact ⟨hK.drew, d3, d4, d5⟩)
    (first | (go_at_call 24; refine (rdigits_2 _ _ (by omega) (by omega)).mono ?_; rintro e w' ⟨rfl, rfl⟩))
  have hK2 := (‹Kept W _ ∧ _›).1
  have hfin : (D ++ ⟨#[32]⟩ ++ ⟨(dig 2 (u % 86400 / 3600).toNat).toArray⟩ ++ ⟨#[58]⟩ ++ ⟨(dig 2 (u % 3600 / 60).toNat).toArray⟩ ++ ⟨#[58]⟩ ++ ⟨(dig 2 (u % 60).toNat).toArray⟩ ++ ⟨#[32]⟩ ++ ⟨#[45]⟩ ++ ⟨(dig 2 (p / 3600).toNat).toArray⟩ ++ ⟨(dig 2 (p / 60 % 60).toNat).toArray⟩ : ByteArray) = ⟨(mtx u (-p)).toArray⟩ := by
    rw [HS.out, E1.out, E2.out]
    apply ByteArray.ext
    simp [ByteArray.data_append, mtx, clk, offs, HSG.out]
  have HF := Lib.hid hfin; clear hfin
  go_wp2
  rw [HF.out]
  go_ret2
  exact ⟨HD.out, rfl, kw.trans hK2⟩
end Go.Proofs.YtlmjopembcifiaaDoor
