/- The law EntRune, walked (given package ent's contracts). -/
import Derived.Test.YtbpkpmgfbapfpaaDoorEnAw
set_option linter.unusedVariables false
namespace Go.Proofs.YtbpkpmgfbapfpaaDoor
open Go.ChangeShapes Go.WideShapes Go.ChangeAt Go.RowKit
open En
theorem txt_add3 (a b : List UInt8) : ByteArray.mk a.toArray ++ ByteArray.mk b.toArray = ⟨(a ++ b).toArray⟩ := by
  apply ByteArray.ext; simp
theorem slice_dec (k : Nat) (W : World) : (Instr.slice 9 (.string ⟨#[48, 49, 50, 51, 52, 53, 54, 55, 56, 57]⟩) (some (.int .i64 ((k : Int) % 10))) (some (.int .i64 ((k : Int) % 10 + 1))) none).run Tryd.prog W = .ok (.string ⟨#[dgc ((k : Int) % 10)]⟩) W := by
  rw [run_slice_string W 9 _ .i64 .i64 _ _ Tryd.underlying9 (by omega) (by omega) (by show (k : Int) % 10 + 1 ≤ 10; omega)]
  have key : ∀ n : Fin 10, ((ByteArray.mk #[48, 49, 50, 51, 52, 53, 54, 55, 56, 57]).extract n.val (n.val + 1)).data = #[dgc (n.val : Int)] := by decide +kernel
  have h := key ⟨k % 10, by omega⟩
  simp only at h
  rw [show ((k : Int) % 10).toNat = k % 10 by omega, show ((k : Int) % 10 + 1).toNat = k % 10 + 1 by omega, show (k : Int) % 10 = ((k % 10 : Nat) : Int) by omega, ← h]
theorem slice_hex (k : Nat) (W : World) : (Instr.slice 9 (.string ⟨#[48, 49, 50, 51, 52, 53, 54, 55, 56, 57, 97, 98, 99, 100, 101, 102]⟩) (some (.int .i64 ((k : Int) % 16))) (some (.int .i64 ((k : Int) % 16 + 1))) none).run Tryd.prog W = .ok (.string ⟨#[dgc ((k : Int) % 16)]⟩) W := by
  rw [run_slice_string W 9 _ .i64 .i64 _ _ Tryd.underlying9 (by omega) (by omega) (by show (k : Int) % 16 + 1 ≤ 16; omega)]
  have key : ∀ n : Fin 16, ((ByteArray.mk #[48, 49, 50, 51, 52, 53, 54, 55, 56, 57, 97, 98, 99, 100, 101, 102]).extract n.val (n.val + 1)).data = #[dgc (n.val : Int)] := by decide +kernel
  have h := key ⟨k % 16, by omega⟩
  simp only at h
  rw [show ((k : Int) % 16).toNat = k % 16 by omega, show ((k : Int) % 16 + 1).toNat = k % 16 + 1 by omega, show (k : Int) % 16 = ((k % 16 : Nat) : Int) by omega, ← h]
theorem En.NumI.short {base n k : Int} {d : List UInt8} (h : NumI base n k d) (hn2 : n ≤ 1114111) (b : base = 10 ∨ base = 16) : d.length ≤ 7 := by
  rcases h.len with ⟨q, _⟩ | ⟨q1, q2, q3⟩
  · rw [q]; simp
  · by_cases hl : d.length ≤ 7
    · exact hl
    · exfalso
      have e : d.length - 1 = 7 + (d.length - 8) := by omega
      rw [e, Int.pow_add] at q2
      have p1 : (1 : Int) ≤ base ^ (d.length - 8) := by
        have : 0 < base ^ (d.length - 8) := Int.pow_pos (by omega)
        omega
      have p2 : (10000000 : Int) ≤ base ^ 7 := by rcases b with rfl | rfl <;> decide
      have p3 : base ^ 7 * 1 ≤ base ^ 7 * base ^ (d.length - 8) := Int.mul_le_mul_of_nonneg_left p1 (by omega)
      omega
/-- what is written by its number is the sign -/
theorem dec_of {n : Int} {d : List UInt8} {k : Int} (h : NumI 10 n k d) (hk : ¬ 0 < k) (ho : okN n = true) (hn : 1 ≤ n) (hn2 : n ≤ 1114111) : deT (38 :: (35 :: d ++ [59])) = utf n ∧ deE (38 :: (35 :: d ++ [59])) = 0 := by
  obtain ⟨h1, h2, h3⟩ := h.done hk hn hn2 (Or.inl rfl)
  have e := gone_dec h.dig h3 h1 ho
  exact ⟨by rw [deT_ok (by rw [e]), e], deE_of (by rw [e])⟩
theorem hex_of {n : Int} {d : List UInt8} {k : Int} (h : NumI 16 n k d) (hk : ¬ 0 < k) (ho : okN n = true) (hn : 1 ≤ n) (hn2 : n ≤ 1114111) : deT (38 :: (35 :: 120 :: d ++ [59])) = utf n ∧ deE (38 :: (35 :: 120 :: d ++ [59])) = 0 := by
  obtain ⟨h1, h2, h3⟩ := h.done hk hn hn2 (Or.inr rfl)
  have e := gone_hex h.dig h3 h1 ho
  exact ⟨by rw [deT_ok (by rw [e]), e], deE_of (by rw [e])⟩
theorem ok_bd {n : Int} (h : okN n = true) : 1 ≤ n ∧ n ≤ 1114111 := by
  unfold okN at h
  have := of_decide_eq_true h
  omega
set_option maxRecDepth 100000 in
set_option maxHeartbeats 8000000 in
theorem rune7_walk {I : World → Prop} (H : EntC I) (n : Int) (w : World) (n1 : -9223372036854775808 ≤ n) (n2 : n ≤ 9223372036854775807) (hI : I w) : Calls Tryd.prog 6 #[.int .i64 n] w fun e w' => e = .returned (.bool true) ∧ Kept w w' := by

  have H := Lib.hid H
  have I0 := Lib.hid hI
  have K0 := Lib.hid (Kept.refl w)
  clear hI
  go_enter Tryd.func6, Tryd.ntmps6
  go_wp2_with fail
  refine (awake7_any H.out _ I0.out).mono ?_
  rintro e x1 ⟨rfl, k1⟩
  have K1 := Lib.hid (K0.out.trans k1); have I1 := Lib.hid (H.out.stays _ _ I0.out k1)
  clear k1 K0 I0
  go_wp2_with fail
  refine (H.out.rune n _ I1.out n1 n2).mono ?_
  rintro e x2 ⟨rfl, k2⟩
  have K2 := Lib.hid (K1.out.trans k2); have I2 := Lib.hid (H.out.stays _ _ I1.out k2)
  clear k2 K1 I1
  cases hok : okN n with
  | false =>
    have HS := Lib.hid (show rnS n = [] by unfold rnS rn; rw [hok]; rfl)
    rw [HS.out]
    go_wp2
    go_ret
    exact ⟨rfl, K2.out⟩
  | true =>
    have HS := Lib.hid (show rnS n = utf n by unfold rnS rn; rw [hok]; rfl)
    have HU := Lib.hid (utf_len hok)
    obtain ⟨b1, b2⟩ := ok_bd hok
    have HD := Lib.hid (fun (d : List UInt8) (k : Int) (h : NumI 10 n k d) (hk : ¬ 0 < k) => dec_of h hk hok b1 b2)
    have HX := Lib.hid (fun (d : List UInt8) (k : Int) (h : NumI 16 n k d) (hk : ¬ 0 < k) => hex_of h hk hok b1 b2)
    rw [HS.out]
    generalize utf n = s at *
    clear HS
    have hnn : (n.toNat : Int) = n := by omega
    have ST := Lib.hid (NumI.start (base := 10) (n := n) (by omega))
    have SX := Lib.hid (NumI.start (base := 16) (n := n) (by omega))
    rcases (show n < 128 ∨ (128 ≤ n ∧ n < 2048) ∨ (2048 ≤ n ∧ n < 65536) ∨ 65536 ≤ n by omega) with hb | hb | hb | hb
    · have HL := Lib.hid (show (s.length : Int) = 1 by rw [HU.out]; rw [if_pos (by omega)]; rfl)
      have c0 : n < 128 := by omega
      clear HU hb hok
      go_wp2_with fail
      go_loopw [7, 9] (fun d i y => y = x2 ∧ ∃ (k : Nat) (ds : List UInt8), d = .string ⟨ds.toArray⟩ ∧ i = .int .i64 k ∧ NumI 10 n (k : Int) ds) (fun _ i _ => (intOf i).toNat)
      case atStart => exact ⟨rfl, n.toNat, [], rfl, by rw [hnn], by rw [hnn]; exact ST.out⟩
      case round =>
        obtain ⟨rfl, k, ds, rfl, rfl, hnum⟩ := hrel
        have HN := Lib.hid hnum
        have hsh := hnum.short b2 (by omega)
        have hkn := hnum.hi
        clear hnum
        by_cases hk : 0 < (k : Int)
        · have hwr : wrap64 ((k : Int) / 10) = (k : Int) / 10 := by unfold wrap64; omega
          have hsl := slice_dec k wr
          have HNX := Lib.hid (HN.out.next hk (by omega) (by omega))
          have e1 : ByteArray.mk #[dgc ((k : Int) % 10)] ++ ByteArray.mk ds.toArray = ⟨(dgc ((k : Int) % 10) :: ds).toArray⟩ := txt_add3 [_] ds
          go_wp2
          go_roundw
          case rel => exact ⟨trivial, k / 10, _, rfl, by go_num, HNX.out⟩
          case measure => simp [intOf]; omega
        · clear hsh
          obtain ⟨y1, y2⟩ := HD.out _ _ HN.out (by omega)
          obtain ⟨u1, hu1⟩ : ∃ u, u = 38 :: 35 :: ds := ⟨_, rfl⟩
          obtain ⟨v1, hv1⟩ : ∃ u, u = 38 :: (35 :: ds ++ [59]) := ⟨_, rfl⟩
          have f1 : ByteArray.mk #[38, 35] ++ ByteArray.mk ds.toArray = ⟨u1.toArray⟩ := by rw [hu1]; exact txt_add3 [38, 35] ds
          have f2 : ByteArray.mk u1.toArray ++ ByteArray.mk #[59] = ⟨v1.toArray⟩ := by rw [hv1, hu1]; have := txt_add3 (38 :: 35 :: ds) [59]; simpa using this
          have f3 : v1.length ≤ 10 := by rw [hv1]; have := HN.out.short b2 (by omega); simp; omega
          have f4 : u1.length ≤ 9 := by rw [hu1]; have := HN.out.short b2 (by omega); simp; omega
          have f5 : ds.length ≤ 7 := HN.out.short b2 (by omega)
          rw [← hv1] at y1 y2
          have HT1 := Lib.hid y1; have HE1 := Lib.hid y2
          clear hu1 hv1 y1 y2 HD HN
          generalize ds = d1 at *
          go_wp2_with fail
          go_loopw [8, 10] (fun d i y => y = wr ∧ ∃ (k : Nat) (ds : List UInt8), d = .string ⟨ds.toArray⟩ ∧ i = .int .i64 k ∧ NumI 16 n (k : Int) ds) (fun _ i _ => (intOf i).toNat)
          case atStart => exact ⟨rfl, n.toNat, [], rfl, by rw [hnn], by rw [hnn]; exact SX.out⟩
          case round =>
            obtain ⟨rfl, k, ds, rfl, rfl, hnum⟩ := hrel
            have HN := Lib.hid hnum
            have hsh := hnum.short b2 (by omega)
            have hkn := hnum.hi
            clear hnum
            by_cases hk : 0 < (k : Int)
            · have hwr : wrap64 ((k : Int) / 16) = (k : Int) / 16 := by unfold wrap64; omega
              have hsl := slice_hex k wr
              have HNX := Lib.hid (HN.out.next hk (by omega) (by omega))
              have e1 : ByteArray.mk #[dgc ((k : Int) % 16)] ++ ByteArray.mk ds.toArray = ⟨(dgc ((k : Int) % 16) :: ds).toArray⟩ := txt_add3 [_] ds
              go_wp2
              go_roundw
              case rel => exact ⟨trivial, k / 16, _, rfl, by go_num, HNX.out⟩
              case measure => simp [intOf]; omega
            · clear hsh
              obtain ⟨y1, y2⟩ := HX.out _ _ HN.out (by omega)
              obtain ⟨u2, hu2⟩ : ∃ u, u = 38 :: 35 :: 120 :: ds := ⟨_, rfl⟩
              obtain ⟨v2, hv2⟩ : ∃ u, u = 38 :: (35 :: 120 :: ds ++ [59]) := ⟨_, rfl⟩
              have g1 : ByteArray.mk #[38, 35, 120] ++ ByteArray.mk ds.toArray = ⟨u2.toArray⟩ := by rw [hu2]; exact txt_add3 [38, 35, 120] ds
              have g2 : ByteArray.mk u2.toArray ++ ByteArray.mk #[59] = ⟨v2.toArray⟩ := by rw [hv2, hu2]; have := txt_add3 (38 :: 35 :: 120 :: ds) [59]; simpa using this
              have g3 : v2.length ≤ 11 := by rw [hv2]; have := HN.out.short b2 (by omega); simp; omega
              have g4 : u2.length ≤ 10 := by rw [hu2]; have := HN.out.short b2 (by omega); simp; omega
              rw [← hv2] at y1 y2
              have g5 : ds.length ≤ 7 := HN.out.short b2 (by omega)
              clear hu2 hv2 HX HN
              go_wp2_with fail
              refine (H.out.decode v1 _ I2.out (by omega)).mono ?_
              rintro e x3 ⟨rfl, k3⟩
              have K3 := Lib.hid (K2.out.trans k3); have I3 := Lib.hid (H.out.stays _ _ I2.out k3)
              clear k3 K2 I2
              rw [HT1.out, HE1.out]
              go_wp2_with fail
              refine (H.out.decode v2 _ I3.out (by omega)).mono ?_
              rintro e x4 ⟨rfl, k4⟩
              have K4 := Lib.hid (K3.out.trans k4); have I4 := Lib.hid (H.out.stays _ _ I3.out k4)
              clear k4 K3 I3
              rw [y1, y2]
              have hl0 := HL.out
              go_wp2
              go_ret
              exact ⟨rfl, K4.out⟩
    · have HL := Lib.hid (show (s.length : Int) = 2 by rw [HU.out]; rw [if_neg (by omega)]; rw [if_pos (by omega)]; rfl)
      have c0 : ¬ n < 128 := by omega
      have c1 : n < 2048 := by omega
      clear HU hb hok
      go_wp2_with fail
      go_loopw [7, 9] (fun d i y => y = x2 ∧ ∃ (k : Nat) (ds : List UInt8), d = .string ⟨ds.toArray⟩ ∧ i = .int .i64 k ∧ NumI 10 n (k : Int) ds) (fun _ i _ => (intOf i).toNat)
      case atStart => exact ⟨rfl, n.toNat, [], rfl, by rw [hnn], by rw [hnn]; exact ST.out⟩
      case round =>
        obtain ⟨rfl, k, ds, rfl, rfl, hnum⟩ := hrel
        have HN := Lib.hid hnum
        have hsh := hnum.short b2 (by omega)
        have hkn := hnum.hi
        clear hnum
        by_cases hk : 0 < (k : Int)
        · have hwr : wrap64 ((k : Int) / 10) = (k : Int) / 10 := by unfold wrap64; omega
          have hsl := slice_dec k wr
          have HNX := Lib.hid (HN.out.next hk (by omega) (by omega))
          have e1 : ByteArray.mk #[dgc ((k : Int) % 10)] ++ ByteArray.mk ds.toArray = ⟨(dgc ((k : Int) % 10) :: ds).toArray⟩ := txt_add3 [_] ds
          go_wp2
          go_roundw
          case rel => exact ⟨trivial, k / 10, _, rfl, by go_num, HNX.out⟩
          case measure => simp [intOf]; omega
        · clear hsh
          obtain ⟨y1, y2⟩ := HD.out _ _ HN.out (by omega)
          obtain ⟨u1, hu1⟩ : ∃ u, u = 38 :: 35 :: ds := ⟨_, rfl⟩
          obtain ⟨v1, hv1⟩ : ∃ u, u = 38 :: (35 :: ds ++ [59]) := ⟨_, rfl⟩
          have f1 : ByteArray.mk #[38, 35] ++ ByteArray.mk ds.toArray = ⟨u1.toArray⟩ := by rw [hu1]; exact txt_add3 [38, 35] ds
          have f2 : ByteArray.mk u1.toArray ++ ByteArray.mk #[59] = ⟨v1.toArray⟩ := by rw [hv1, hu1]; have := txt_add3 (38 :: 35 :: ds) [59]; simpa using this
          have f3 : v1.length ≤ 10 := by rw [hv1]; have := HN.out.short b2 (by omega); simp; omega
          have f4 : u1.length ≤ 9 := by rw [hu1]; have := HN.out.short b2 (by omega); simp; omega
          have f5 : ds.length ≤ 7 := HN.out.short b2 (by omega)
          rw [← hv1] at y1 y2
          have HT1 := Lib.hid y1; have HE1 := Lib.hid y2
          clear hu1 hv1 y1 y2 HD HN
          generalize ds = d1 at *
          go_wp2_with fail
          go_loopw [8, 10] (fun d i y => y = wr ∧ ∃ (k : Nat) (ds : List UInt8), d = .string ⟨ds.toArray⟩ ∧ i = .int .i64 k ∧ NumI 16 n (k : Int) ds) (fun _ i _ => (intOf i).toNat)
          case atStart => exact ⟨rfl, n.toNat, [], rfl, by rw [hnn], by rw [hnn]; exact SX.out⟩
          case round =>
            obtain ⟨rfl, k, ds, rfl, rfl, hnum⟩ := hrel
            have HN := Lib.hid hnum
            have hsh := hnum.short b2 (by omega)
            have hkn := hnum.hi
            clear hnum
            by_cases hk : 0 < (k : Int)
            · have hwr : wrap64 ((k : Int) / 16) = (k : Int) / 16 := by unfold wrap64; omega
              have hsl := slice_hex k wr
              have HNX := Lib.hid (HN.out.next hk (by omega) (by omega))
              have e1 : ByteArray.mk #[dgc ((k : Int) % 16)] ++ ByteArray.mk ds.toArray = ⟨(dgc ((k : Int) % 16) :: ds).toArray⟩ := txt_add3 [_] ds
              go_wp2
              go_roundw
              case rel => exact ⟨trivial, k / 16, _, rfl, by go_num, HNX.out⟩
              case measure => simp [intOf]; omega
            · clear hsh
              obtain ⟨y1, y2⟩ := HX.out _ _ HN.out (by omega)
              obtain ⟨u2, hu2⟩ : ∃ u, u = 38 :: 35 :: 120 :: ds := ⟨_, rfl⟩
              obtain ⟨v2, hv2⟩ : ∃ u, u = 38 :: (35 :: 120 :: ds ++ [59]) := ⟨_, rfl⟩
              have g1 : ByteArray.mk #[38, 35, 120] ++ ByteArray.mk ds.toArray = ⟨u2.toArray⟩ := by rw [hu2]; exact txt_add3 [38, 35, 120] ds
              have g2 : ByteArray.mk u2.toArray ++ ByteArray.mk #[59] = ⟨v2.toArray⟩ := by rw [hv2, hu2]; have := txt_add3 (38 :: 35 :: 120 :: ds) [59]; simpa using this
              have g3 : v2.length ≤ 11 := by rw [hv2]; have := HN.out.short b2 (by omega); simp; omega
              have g4 : u2.length ≤ 10 := by rw [hu2]; have := HN.out.short b2 (by omega); simp; omega
              rw [← hv2] at y1 y2
              have g5 : ds.length ≤ 7 := HN.out.short b2 (by omega)
              clear hu2 hv2 HX HN
              go_wp2_with fail
              refine (H.out.decode v1 _ I2.out (by omega)).mono ?_
              rintro e x3 ⟨rfl, k3⟩
              have K3 := Lib.hid (K2.out.trans k3); have I3 := Lib.hid (H.out.stays _ _ I2.out k3)
              clear k3 K2 I2
              rw [HT1.out, HE1.out]
              go_wp2_with fail
              refine (H.out.decode v2 _ I3.out (by omega)).mono ?_
              rintro e x4 ⟨rfl, k4⟩
              have K4 := Lib.hid (K3.out.trans k4); have I4 := Lib.hid (H.out.stays _ _ I3.out k4)
              clear k4 K3 I3
              rw [y1, y2]
              have hl0 := HL.out
              go_wp2
              go_ret
              exact ⟨rfl, K4.out⟩
    · have HL := Lib.hid (show (s.length : Int) = 3 by rw [HU.out]; rw [if_neg (by omega)]; rw [if_neg (by omega)]; rw [if_pos (by omega)]; rfl)
      have c0 : ¬ n < 128 := by omega
      have c1 : ¬ n < 2048 := by omega
      have c2 : n < 65536 := by omega
      clear HU hb hok
      go_wp2_with fail
      go_loopw [7, 9] (fun d i y => y = x2 ∧ ∃ (k : Nat) (ds : List UInt8), d = .string ⟨ds.toArray⟩ ∧ i = .int .i64 k ∧ NumI 10 n (k : Int) ds) (fun _ i _ => (intOf i).toNat)
      case atStart => exact ⟨rfl, n.toNat, [], rfl, by rw [hnn], by rw [hnn]; exact ST.out⟩
      case round =>
        obtain ⟨rfl, k, ds, rfl, rfl, hnum⟩ := hrel
        have HN := Lib.hid hnum
        have hsh := hnum.short b2 (by omega)
        have hkn := hnum.hi
        clear hnum
        by_cases hk : 0 < (k : Int)
        · have hwr : wrap64 ((k : Int) / 10) = (k : Int) / 10 := by unfold wrap64; omega
          have hsl := slice_dec k wr
          have HNX := Lib.hid (HN.out.next hk (by omega) (by omega))
          have e1 : ByteArray.mk #[dgc ((k : Int) % 10)] ++ ByteArray.mk ds.toArray = ⟨(dgc ((k : Int) % 10) :: ds).toArray⟩ := txt_add3 [_] ds
          go_wp2
          go_roundw
          case rel => exact ⟨trivial, k / 10, _, rfl, by go_num, HNX.out⟩
          case measure => simp [intOf]; omega
        · clear hsh
          obtain ⟨y1, y2⟩ := HD.out _ _ HN.out (by omega)
          obtain ⟨u1, hu1⟩ : ∃ u, u = 38 :: 35 :: ds := ⟨_, rfl⟩
          obtain ⟨v1, hv1⟩ : ∃ u, u = 38 :: (35 :: ds ++ [59]) := ⟨_, rfl⟩
          have f1 : ByteArray.mk #[38, 35] ++ ByteArray.mk ds.toArray = ⟨u1.toArray⟩ := by rw [hu1]; exact txt_add3 [38, 35] ds
          have f2 : ByteArray.mk u1.toArray ++ ByteArray.mk #[59] = ⟨v1.toArray⟩ := by rw [hv1, hu1]; have := txt_add3 (38 :: 35 :: ds) [59]; simpa using this
          have f3 : v1.length ≤ 10 := by rw [hv1]; have := HN.out.short b2 (by omega); simp; omega
          have f4 : u1.length ≤ 9 := by rw [hu1]; have := HN.out.short b2 (by omega); simp; omega
          have f5 : ds.length ≤ 7 := HN.out.short b2 (by omega)
          rw [← hv1] at y1 y2
          have HT1 := Lib.hid y1; have HE1 := Lib.hid y2
          clear hu1 hv1 y1 y2 HD HN
          generalize ds = d1 at *
          go_wp2_with fail
          go_loopw [8, 10] (fun d i y => y = wr ∧ ∃ (k : Nat) (ds : List UInt8), d = .string ⟨ds.toArray⟩ ∧ i = .int .i64 k ∧ NumI 16 n (k : Int) ds) (fun _ i _ => (intOf i).toNat)
          case atStart => exact ⟨rfl, n.toNat, [], rfl, by rw [hnn], by rw [hnn]; exact SX.out⟩
          case round =>
            obtain ⟨rfl, k, ds, rfl, rfl, hnum⟩ := hrel
            have HN := Lib.hid hnum
            have hsh := hnum.short b2 (by omega)
            have hkn := hnum.hi
            clear hnum
            by_cases hk : 0 < (k : Int)
            · have hwr : wrap64 ((k : Int) / 16) = (k : Int) / 16 := by unfold wrap64; omega
              have hsl := slice_hex k wr
              have HNX := Lib.hid (HN.out.next hk (by omega) (by omega))
              have e1 : ByteArray.mk #[dgc ((k : Int) % 16)] ++ ByteArray.mk ds.toArray = ⟨(dgc ((k : Int) % 16) :: ds).toArray⟩ := txt_add3 [_] ds
              go_wp2
              go_roundw
              case rel => exact ⟨trivial, k / 16, _, rfl, by go_num, HNX.out⟩
              case measure => simp [intOf]; omega
            · clear hsh
              obtain ⟨y1, y2⟩ := HX.out _ _ HN.out (by omega)
              obtain ⟨u2, hu2⟩ : ∃ u, u = 38 :: 35 :: 120 :: ds := ⟨_, rfl⟩
              obtain ⟨v2, hv2⟩ : ∃ u, u = 38 :: (35 :: 120 :: ds ++ [59]) := ⟨_, rfl⟩
              have g1 : ByteArray.mk #[38, 35, 120] ++ ByteArray.mk ds.toArray = ⟨u2.toArray⟩ := by rw [hu2]; exact txt_add3 [38, 35, 120] ds
              have g2 : ByteArray.mk u2.toArray ++ ByteArray.mk #[59] = ⟨v2.toArray⟩ := by rw [hv2, hu2]; have := txt_add3 (38 :: 35 :: 120 :: ds) [59]; simpa using this
              have g3 : v2.length ≤ 11 := by rw [hv2]; have := HN.out.short b2 (by omega); simp; omega
              have g4 : u2.length ≤ 10 := by rw [hu2]; have := HN.out.short b2 (by omega); simp; omega
              rw [← hv2] at y1 y2
              have g5 : ds.length ≤ 7 := HN.out.short b2 (by omega)
              clear hu2 hv2 HX HN
              go_wp2_with fail
              refine (H.out.decode v1 _ I2.out (by omega)).mono ?_
              rintro e x3 ⟨rfl, k3⟩
              have K3 := Lib.hid (K2.out.trans k3); have I3 := Lib.hid (H.out.stays _ _ I2.out k3)
              clear k3 K2 I2
              rw [HT1.out, HE1.out]
              go_wp2_with fail
              refine (H.out.decode v2 _ I3.out (by omega)).mono ?_
              rintro e x4 ⟨rfl, k4⟩
              have K4 := Lib.hid (K3.out.trans k4); have I4 := Lib.hid (H.out.stays _ _ I3.out k4)
              clear k4 K3 I3
              rw [y1, y2]
              have hl0 := HL.out
              go_wp2
              go_ret
              exact ⟨rfl, K4.out⟩
    · have HL := Lib.hid (show (s.length : Int) = 4 by rw [HU.out]; rw [if_neg (by omega)]; rw [if_neg (by omega)]; rw [if_neg (by omega)]; rfl)
      have c0 : ¬ n < 128 := by omega
      have c1 : ¬ n < 2048 := by omega
      have c2 : ¬ n < 65536 := by omega
      clear HU hb hok
      go_wp2_with fail
      go_loopw [7, 9] (fun d i y => y = x2 ∧ ∃ (k : Nat) (ds : List UInt8), d = .string ⟨ds.toArray⟩ ∧ i = .int .i64 k ∧ NumI 10 n (k : Int) ds) (fun _ i _ => (intOf i).toNat)
      case atStart => exact ⟨rfl, n.toNat, [], rfl, by rw [hnn], by rw [hnn]; exact ST.out⟩
      case round =>
        obtain ⟨rfl, k, ds, rfl, rfl, hnum⟩ := hrel
        have HN := Lib.hid hnum
        have hsh := hnum.short b2 (by omega)
        have hkn := hnum.hi
        clear hnum
        by_cases hk : 0 < (k : Int)
        · have hwr : wrap64 ((k : Int) / 10) = (k : Int) / 10 := by unfold wrap64; omega
          have hsl := slice_dec k wr
          have HNX := Lib.hid (HN.out.next hk (by omega) (by omega))
          have e1 : ByteArray.mk #[dgc ((k : Int) % 10)] ++ ByteArray.mk ds.toArray = ⟨(dgc ((k : Int) % 10) :: ds).toArray⟩ := txt_add3 [_] ds
          go_wp2
          go_roundw
          case rel => exact ⟨trivial, k / 10, _, rfl, by go_num, HNX.out⟩
          case measure => simp [intOf]; omega
        · clear hsh
          obtain ⟨y1, y2⟩ := HD.out _ _ HN.out (by omega)
          obtain ⟨u1, hu1⟩ : ∃ u, u = 38 :: 35 :: ds := ⟨_, rfl⟩
          obtain ⟨v1, hv1⟩ : ∃ u, u = 38 :: (35 :: ds ++ [59]) := ⟨_, rfl⟩
          have f1 : ByteArray.mk #[38, 35] ++ ByteArray.mk ds.toArray = ⟨u1.toArray⟩ := by rw [hu1]; exact txt_add3 [38, 35] ds
          have f2 : ByteArray.mk u1.toArray ++ ByteArray.mk #[59] = ⟨v1.toArray⟩ := by rw [hv1, hu1]; have := txt_add3 (38 :: 35 :: ds) [59]; simpa using this
          have f3 : v1.length ≤ 10 := by rw [hv1]; have := HN.out.short b2 (by omega); simp; omega
          have f4 : u1.length ≤ 9 := by rw [hu1]; have := HN.out.short b2 (by omega); simp; omega
          have f5 : ds.length ≤ 7 := HN.out.short b2 (by omega)
          rw [← hv1] at y1 y2
          have HT1 := Lib.hid y1; have HE1 := Lib.hid y2
          clear hu1 hv1 y1 y2 HD HN
          generalize ds = d1 at *
          go_wp2_with fail
          go_loopw [8, 10] (fun d i y => y = wr ∧ ∃ (k : Nat) (ds : List UInt8), d = .string ⟨ds.toArray⟩ ∧ i = .int .i64 k ∧ NumI 16 n (k : Int) ds) (fun _ i _ => (intOf i).toNat)
          case atStart => exact ⟨rfl, n.toNat, [], rfl, by rw [hnn], by rw [hnn]; exact SX.out⟩
          case round =>
            obtain ⟨rfl, k, ds, rfl, rfl, hnum⟩ := hrel
            have HN := Lib.hid hnum
            have hsh := hnum.short b2 (by omega)
            have hkn := hnum.hi
            clear hnum
            by_cases hk : 0 < (k : Int)
            · have hwr : wrap64 ((k : Int) / 16) = (k : Int) / 16 := by unfold wrap64; omega
              have hsl := slice_hex k wr
              have HNX := Lib.hid (HN.out.next hk (by omega) (by omega))
              have e1 : ByteArray.mk #[dgc ((k : Int) % 16)] ++ ByteArray.mk ds.toArray = ⟨(dgc ((k : Int) % 16) :: ds).toArray⟩ := txt_add3 [_] ds
              go_wp2
              go_roundw
              case rel => exact ⟨trivial, k / 16, _, rfl, by go_num, HNX.out⟩
              case measure => simp [intOf]; omega
            · clear hsh
              obtain ⟨y1, y2⟩ := HX.out _ _ HN.out (by omega)
              obtain ⟨u2, hu2⟩ : ∃ u, u = 38 :: 35 :: 120 :: ds := ⟨_, rfl⟩
              obtain ⟨v2, hv2⟩ : ∃ u, u = 38 :: (35 :: 120 :: ds ++ [59]) := ⟨_, rfl⟩
              have g1 : ByteArray.mk #[38, 35, 120] ++ ByteArray.mk ds.toArray = ⟨u2.toArray⟩ := by rw [hu2]; exact txt_add3 [38, 35, 120] ds
              have g2 : ByteArray.mk u2.toArray ++ ByteArray.mk #[59] = ⟨v2.toArray⟩ := by rw [hv2, hu2]; have := txt_add3 (38 :: 35 :: 120 :: ds) [59]; simpa using this
              have g3 : v2.length ≤ 11 := by rw [hv2]; have := HN.out.short b2 (by omega); simp; omega
              have g4 : u2.length ≤ 10 := by rw [hu2]; have := HN.out.short b2 (by omega); simp; omega
              rw [← hv2] at y1 y2
              have g5 : ds.length ≤ 7 := HN.out.short b2 (by omega)
              clear hu2 hv2 HX HN
              go_wp2_with fail
              refine (H.out.decode v1 _ I2.out (by omega)).mono ?_
              rintro e x3 ⟨rfl, k3⟩
              have K3 := Lib.hid (K2.out.trans k3); have I3 := Lib.hid (H.out.stays _ _ I2.out k3)
              clear k3 K2 I2
              rw [HT1.out, HE1.out]
              go_wp2_with fail
              refine (H.out.decode v2 _ I3.out (by omega)).mono ?_
              rintro e x4 ⟨rfl, k4⟩
              have K4 := Lib.hid (K3.out.trans k4); have I4 := Lib.hid (H.out.stays _ _ I3.out k4)
              clear k4 K3 I3
              rw [y1, y2]
              have hl0 := HL.out
              go_wp2
              go_ret
              exact ⟨rfl, K4.out⟩
end Go.Proofs.YtbpkpmgfbapfpaaDoor
