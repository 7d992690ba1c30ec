/- The document's own answers of package cron: a number's text, a schedule's text. -/
import Derived.Test.YtcmdjpgabkjbpaaGreatDoorCrRefH
import Derived.Test.YtcmdjpgabkjbpaaGreatDoorCrWrite
import Derived.Test.YtcmdjpgabkjbpaaGreatDoorCrDay
set_option linter.unusedVariables false
namespace Go.Proofs.YtcmdjpgabkjbpaaGreatDoor
open Go.ChangeShapes Go.WideShapes Go.ChangeAt Go.RowKit
open Crn
theorem ret_bytes {a b : ByteArray} (h : a = b) : Ending.returned (.string a) = .returned (.string b) := by rw [h]
def prD (m : Nat) : List UInt8 := if m = 0 then [] else Lib.decDigits m
theorem prD_step (m : Nat) (h : 0 < m) : prD m = prD (m / 10) ++ [UInt8.ofNat (48 + m % 10)] := by
  unfold prD
  rw [if_neg (by omega)]
  by_cases h10 : m < 10
  · rw [if_pos (by omega), Lib.decDigits_one h10, Nat.mod_eq_of_lt h10]; rfl
  · rw [if_neg (by omega), Lib.decDigits, dif_neg h10]
theorem dec_prD (m : Nat) : Lib.decDigits m = prD (m / 10) ++ [UInt8.ofNat (48 + m % 10)] := by
  by_cases h : m = 0
  · subst h; rw [Lib.decDigits_one (by omega)]; rfl
  · rw [← prD_step m (by omega), prD, if_neg h]
theorem digitR_at (k : Nat) (h : k < 10) : (ByteArray.mk #[48, 49, 50, 51, 52, 53, 54, 55, 56, 57]).extract k (k + 1) = ⟨#[UInt8.ofNat (48 + k)]⟩ := by
  have : k = 0 ∨ k = 1 ∨ k = 2 ∨ k = 3 ∨ k = 4 ∨ k = 5 ∨ k = 6 ∨ k = 7 ∨ k = 8 ∨ k = 9 := by omega
  rcases this with rfl | rfl | rfl | rfl | rfl | rfl | rfl | rfl | rfl | rfl <;> rfl
def NbR (n : Nat) (a b : Value) : Prop := ∃ (m : Nat) (o : List UInt8), m ≤ n ∧ a = .int .i64 m ∧ b = .string ⟨o.toArray⟩ ∧ Lib.decDigits n = prD m ++ o ∧ o.length + m ≤ n + 1
theorem slice_digitR (n : Nat) (w : World) : (Instr.slice 9 (.string ⟨#[48, 49, 50, 51, 52, 53, 54, 55, 56, 57]⟩) (some (.int .i64 ((n : Int) % 10))) (some (.int .i64 ((n : Int) % 10 + 1))) none).run Tryz.prog w = .ok (.string ⟨#[UInt8.ofNat (48 + n % 10)]⟩) w := by
  rw [run_slice_string w 9 _ .i64 .i64 _ _ Tryz.underlying9 (by omega) (by omega) (by show (n : Int) % 10 + 1 ≤ 10; omega)]
  rw [show ((n : Int) % 10).toNat = n % 10 by omega, show ((n : Int) % 10 + 1).toNat = n % 10 + 1 by omega, digitR_at _ (by omega)]
set_option maxHeartbeats 1000000 in
theorem rnumber_nat (n : Nat) (w : World) (hn : n ≤ 1000000) :
    Calls Tryz.prog 36 #[.int .i64 n] w fun e w' => e = .returned (.string ⟨(Lib.decDigits n).toArray⟩) ∧ w = w' := by
  have hx := slice_digitR n
  have hd := Lib.hid (dec_prD n)
  go_enter Tryz.func36, Tryz.ntmps36
  go_wp2_with fail
  clear hx
  go_loop [0, 3] (fun a b => NbR n a b) (fun a _ => (intOf a).toNat)
  case atStart => exact ⟨n / 10, [UInt8.ofNat (48 + n % 10)], by omega, by go_num, by simp, hd.out, by simp only [List.length_cons, List.length_nil]; omega⟩
  case round =>
    obtain ⟨m, o, hm, rfl, rfl, hD, hl⟩ := hrel
    have HD := Lib.hid hD; clear hD
    by_cases h0 : 0 < m
    · have hx := slice_digitR m
      have hp := Lib.hid (prD_step m h0)
      go_wp2
      go_round
      case rel => exact ⟨m / 10, UInt8.ofNat (48 + m % 10) :: o, by omega, by go_num, by congr 1; apply ByteArray.ext; simp [ByteArray.data_append], by rw [HD.out, hp.out]; simp, by simp only [List.length_cons]; omega⟩
      case measure => simp [intOf]; omega
    · have hE := Lib.hid (show Lib.decDigits n = o by rw [HD.out, show m = 0 by omega]; rfl)
      go_wp2
      go_ret
      exact ⟨ret_bytes (by rw [hE.out]), rfl⟩
theorem rnumber36_any (n : Int) (w : World) (h0 : 0 ≤ n) (h1 : n < 100) : Calls Tryz.prog 36 #[.int .i64 n] w fun e w' => e = .returned (.string ⟨(Lib.itoa n).toArray⟩) ∧ w = w' := by
  obtain ⟨k, rfl⟩ := Int.eq_ofNat_of_zero_le h0
  refine (rnumber_nat k w (by omega)).mono ?_
  rintro e w' ⟨rfl, rfl⟩
  refine ⟨?_, rfl⟩
  unfold Lib.itoa
  rw [if_neg (by omega)]; simp
theorem join_snoc (c : UInt8) (y : List UInt8) : ∀ (xs : List (List UInt8)), xs ≠ [] → Lib.join (xs ++ [y]) [c] = Lib.join xs [c] ++ ([c] ++ y)
  | [], h => absurd rfl h
  | [x], _ => by simp [Lib.join, List.intercalate]
  | x :: z :: r, _ => by
    have ih := join_snoc c y (z :: r) (by simp)
    have e : ∀ s, Lib.join (x :: z :: s) [c] = x ++ [c] ++ Lib.join (z :: s) [c] := fun s => by simp [Lib.join, List.intercalate]
    show Lib.join (x :: z :: (r ++ [y])) [c] = _
    rw [e, e]
    show x ++ [c] ++ Lib.join (z :: r ++ [y]) [c] = _
    rw [ih]; simp
theorem prts_next (c : CR) (k : Nat) (h : 0 < k) : Lib.join (prts c (k + 1)) [32] = Lib.join (prts c k) [32] ++ [32] ++ ptxt (c.L k) (c.st k) := by
  rw [prts_succ, join_snoc 32 _ _ (by intro e; have := prts_len c k; rw [e] at this; simp at this; omega)]; simp
theorem prts_one (c : CR) : Lib.join (prts c 1) [32] = [] ++ ptxt (c.L 0) (c.st 0) := by
  show Lib.join [ptxt (c.L 0) (c.st 0)] [32] = _
  rw [Lib.join_one]; rfl
theorem itx_next (l : List Int) (k : Nat) (n : Int) (h : l[k]? = some n) (hk : 0 < k) : Lib.join ((l.take (k + 1)).map Lib.itoa) [44] = Lib.join ((l.take k).map Lib.itoa) [44] ++ ([44] ++ Lib.itoa n) := by
  have hlt := (List.getElem?_eq_some_iff.1 h).1
  rw [List.take_add_one, h]
  simp only [Option.toList_some, List.map_append, List.map_cons, List.map_nil]
  rw [join_snoc 44 _ _ (by intro e; have := congrArg List.length e; rw [List.length_map, List.length_take, Nat.min_eq_left (by omega)] at this; simp at this; omega)]
theorem itx_one (l : List Int) (n : Int) (h : l[0]? = some n) : Lib.join ((l.take 1).map Lib.itoa) [44] = Lib.itoa n := by
  cases l with
  | nil => simp at h
  | cons a r => simp at h; subst h; simp [Lib.join_one]
/-- a field's numbers, so many of them -/
def itx (l : List Int) (t : Nat) : List UInt8 := Lib.join ((l.take t).map Lib.itoa) [44]
theorem itx_0 (l : List Int) : itx l 0 = [] := rfl
theorem itx_le (l : List Int) (t : Nat) (hr : ∀ x ∈ l, 0 ≤ x ∧ x < 100) (hl : l.length ≤ 60) : (itx l t).length ≤ 180 := by
  have := join_len 2 44 ((l.take t).map Lib.itoa) (fun x hx => by obtain ⟨m, hm, rfl⟩ := List.mem_map.1 hx; have := hr m (List.mem_of_mem_take hm); exact itoa_len m this.1 this.2)
  rw [List.length_map, List.length_take] at this
  unfold itx; omega
theorem ptxt_itx (l : List Int) : ptxt l false = itx l l.length := by
  unfold ptxt itx; rw [if_neg (by decide), List.take_length]
theorem prts_le (c : CR) (h : mayC c = true) (k : Nat) (hk : k ≤ 5) : (Lib.join (prts c k) [32]).length ≤ 181 * k := by
  have := join_len 180 32 (prts c k) (fun x hx => by
    obtain ⟨j, hj, rfl⟩ := List.mem_map.1 hx
    rw [List.mem_range] at hj
    obtain ⟨b1, b2, _⟩ := mayF_bd (mayC_at h j (by omega))
    have := lo_bd j; have := hi_bd j
    exact ptxt_len (fun x hx => by have := b1 x hx; omega) b2)
  rw [prts_len] at this; exact this
set_option maxRecDepth 100000 in
set_option maxHeartbeats 4000000 in
theorem rwrite_any (c : CR) (sl : Nat → Value) (w : World) (hc : Cr w sl c.L) : Calls Tryz.prog 16 #[crV sl c.st] w (WritePost c w) := by
  have k0 := (Kept.refl w).alloc (.cells (cr10 sl c.st) 27)
  have B0 := Lib.hid (Cb.new sl c.st w)
  have C0 := Lib.hid (hc.kept k0)
  have K0 := Lib.hid k0
  clear hc k0
  go_enter Tryz.func16, Tryz.ntmps16
  go_upto_region 1 with (fail)
  generalize w.alloc (.cells (cr10 sl c.st) 27) = x at *
  obtain ⟨e0, e1, e2, e3, e4, e5, e6, e7, e8, e9⟩ := cells10 B0.out
  go_wp2_with fail
  refine (rcmay_any c sl _ C0.out).mono ?_
  rintro e W ⟨rfl, k1⟩
  have B1 := Lib.hid (B0.out.kept k1); have C1 := Lib.hid (C0.out.kept k1); have K1 := Lib.hid (K0.out.trans k1)
  clear k1 B0 C0 K0 e0 e1 e2 e3 e4 e5 e6 e7 e8 e9
  cases hm : mayC c with
  | false =>
    have HM := Lib.hid hm; clear hm
    go_wp2
    go_ret2
    exact ⟨fun h => by rw [HM.out] at h; (cases h), fun _ => rfl, K1.out⟩
  | true =>
    have HM := Lib.hid hm; clear hm
    go_wp2_with fail
    go_loopw [5, 6, 7] (fun o i _ y => y = W ∧ ∃ (k : Nat) (u : List UInt8), k ≤ 5 ∧ i = .int .i64 k ∧ o = .string ⟨u.toArray⟩ ∧ u.length ≤ 181 * k ∧ u = Lib.join (prts c k) [32]) (fun _ i _ _ => 5 - (intOf i).toNat)
    case atStart => exact ⟨rfl, 0, [], by omega, rfl, rfl, by simp, rfl⟩
    case round =>
      obtain ⟨rfl, k, u, hk, rfl, rfl, hul, hu⟩ := hrel
      have HU := Lib.hid hu; clear hu
      by_cases hlt : k < 5
      · have hlti : (k : Int) < 5 := by omega
        obtain ⟨r1, r2⟩ := cr_L sl c.st k hlt
        have d1 := cell_of B1.out r1
        have d2 := cell_of B1.out r2
        have ra := Lib.hid (C1.out k hlt)
        clear r1 r2
        obtain ⟨b1, b2, b3⟩ := mayF_bd (mayC_at HM.out k hlt)
        have hlo := lo_bd k; have hhi := hi_bd k
        have HR := Lib.hid (show ∀ x ∈ c.L k, 0 ≤ x ∧ x < 100 from fun x hx => by have := b1 x hx; omega)
        have HI := Lib.hid (fun t => itx_le (c.L k) t HR.out b2)
        have HPL := Lib.hid (prts_le c HM.out (k + 1) (by omega))
        have hll : (c.L k).length ≤ 60 := b2
        clear b1 b2 b3
        obtain ⟨a1, c1, e1⟩ := ra.out.slice
        rw [e1] at d1
        have HE1 := Lib.hid e1; clear e1
        by_cases hk0 : 0 < k
        · clear hlo hhi
          have HP := Lib.hid (show Lib.join (prts c (k + 1)) [32] = u ++ [32] ++ ptxt (c.L k) (c.st k) by rw [prts_next c k hk0, HU.out])
          have hss : (⟨u.toArray⟩ ++ ⟨#[32]⟩ : ByteArray) = ⟨(u ++ [32]).toArray⟩ := app_mk u [32]
          have hul2 : (u ++ [32]).length ≤ 181 * k + 1 := by simp; omega
          have hki : (0 : Int) < (k : Int) := by omega
          generalize u ++ [32] = p at *
          cases hs : c.st k with
          | true =>
            rw [hs] at d2 HP
            have HQ := Lib.hid (show Lib.join (prts c (k + 1)) [32] = p ++ [42] from HP.out)
            have hs2 : (⟨p.toArray⟩ ++ ⟨#[42]⟩ : ByteArray) = ⟨(p ++ [42]).toArray⟩ := app_mk p [42]
            clear hs HP
            go_wp2
            go_roundw
            case rel => exact ⟨trivial, k + 1, p ++ [42], by omega, by go_num, rfl, by simp; omega, HQ.out.symm⟩
            case measure => simp [intOf]; omega
          | false =>
            rw [hs] at d2 HP
            have HQ := Lib.hid (show Lib.join (prts c (k + 1)) [32] = p ++ itx (c.L k) (c.L k).length by rw [HP.out, ptxt_itx])
            clear hs HP
            generalize hl : c.L k = l at *
            clear hl
            go_wp2_with fail
            go_loopw [5, 7] (fun o j y => y = wr ∧ ∃ (t : Nat) (v : List UInt8), t ≤ l.length ∧ j = .int .i64 t ∧ o = .string ⟨v.toArray⟩ ∧ v = p ++ itx l t) (fun _ j _ => l.length - (intOf j).toNat)
            case atStart => exact ⟨rfl, 0, p, by omega, rfl, rfl, by rw [itx_0]; simp⟩
            case round =>
              obtain ⟨hwy, t, v, ht, rfl, rfl, hv⟩ := hrel
              subst hwy
              have HV := Lib.hid hv
              have hvl : v.length ≤ 181 * k + 181 := by rw [hv, List.length_append]; have := HI.out t; omega
              clear hv
              by_cases hlt2 : t < l.length
              · obtain ⟨p1, o1, x1, q1, -, g1⟩ := ra.out.at (k := t) hlt2
                rw [HE1.out] at q1
                simp only [Value.slice.injEq] at q1
                obtain ⟨q1, -, -⟩ := q1
                subst q1
                obtain ⟨z, hz⟩ : ∃ z, l[t]? = some z := ⟨_, List.getElem?_eq_getElem hlt2⟩
                have f1 := g1 t z hz
                obtain ⟨z0, z1⟩ := HR.out z (List.mem_of_getElem? hz)
                have hzl := itoa_len z z0 z1
                have hti : (t : Int) < (l.length : Int) := by omega
                clear g1
                by_cases ht0 : 0 < t
                · have HZ := Lib.hid (show p ++ itx l (t + 1) = v ++ [44] ++ Lib.itoa z by rw [HV.out]; unfold itx; rw [itx_next l t z hz ht0]; simp)
                  have hs1 : (⟨v.toArray⟩ ++ ⟨#[44]⟩ : ByteArray) = ⟨(v ++ [44]).toArray⟩ := app_mk v [44]
                  have hs2 : (⟨(v ++ [44]).toArray⟩ ++ ⟨(Lib.itoa z).toArray⟩ : ByteArray) = ⟨(v ++ [44] ++ Lib.itoa z).toArray⟩ := app_mk (v ++ [44]) (Lib.itoa z)
                  have hvl2 : (v ++ [44]).length ≤ 181 * k + 182 := by simp; omega
                  have ht0i : (0 : Int) < (t : Int) := by omega
                  clear hz
                  generalize v ++ [44] = v2 at *
                  generalize v2 ++ Lib.itoa z = v3 at *
                  have HC := Lib.hid (rnumber36_any z wr z0 z1)
                  generalize Lib.itoa z = iz at *
                  go_wp2_with fail
                  refine HC.out.mono ?_
                  rintro e y1 ⟨rfl, rfl⟩
                  go_wp2
                  go_roundw
                  case rel => exact ⟨trivial, t + 1, v3, hlt2, by go_num, rfl, HZ.out.symm⟩
                  case measure => simp [intOf]; omega
                · have ht0i : ¬ (0 : Int) < (t : Int) := by omega
                  have HZ := Lib.hid (show p ++ itx l (t + 1) = v ++ Lib.itoa z by obtain rfl : t = 0 := (by omega); rw [HV.out, itx_0]; unfold itx; rw [itx_one l z hz]; simp)
                  have hs2 : (⟨v.toArray⟩ ++ ⟨(Lib.itoa z).toArray⟩ : ByteArray) = ⟨(v ++ Lib.itoa z).toArray⟩ := app_mk v (Lib.itoa z)
                  clear hz
                  generalize v ++ Lib.itoa z = v3 at *
                  have HC := Lib.hid (rnumber36_any z wr z0 z1)
                  generalize Lib.itoa z = iz at *
                  go_wp2_with fail
                  refine HC.out.mono ?_
                  rintro e y1 ⟨rfl, rfl⟩
                  go_wp2
                  go_roundw
                  case rel => exact ⟨trivial, t + 1, v3, hlt2, by go_num, rfl, HZ.out.symm⟩
                  case measure => simp [intOf]; omega
              · obtain rfl : t = l.length := by omega
                have HE := Lib.hid (show v = Lib.join (prts c (k + 1)) [32] by rw [HV.out, HQ.out])
                have hvl3 : v.length ≤ 181 * (k + 1) := by rw [HE.out]; exact HPL.out
                go_wp2
                go_roundw
                case rel => exact ⟨trivial, k + 1, v, by omega, by go_num, rfl, hvl3, HE.out⟩
                case measure => simp [intOf]; omega
        · have hki : ¬ (0 : Int) < (k : Int) := by omega
          clear hlo hhi
          have HP := Lib.hid (show Lib.join (prts c (k + 1)) [32] = u ++ ptxt (c.L k) (c.st k) by obtain rfl : k = 0 := (by omega); rw [prts_one c]; congr 1; exact HU.out.symm)
          have hul2 : u.length ≤ 181 * k + 1 := by omega
          cases hs : c.st k with
          | true =>
            rw [hs] at d2 HP
            have HQ := Lib.hid (show Lib.join (prts c (k + 1)) [32] = u ++ [42] from HP.out)
            have hs2 : (⟨u.toArray⟩ ++ ⟨#[42]⟩ : ByteArray) = ⟨(u ++ [42]).toArray⟩ := app_mk u [42]
            clear hs HP
            go_wp2
            go_roundw
            case rel => exact ⟨trivial, k + 1, u ++ [42], by omega, by go_num, rfl, by simp; omega, HQ.out.symm⟩
            case measure => simp [intOf]; omega
          | false =>
            rw [hs] at d2 HP
            have HQ := Lib.hid (show Lib.join (prts c (k + 1)) [32] = u ++ itx (c.L k) (c.L k).length by rw [HP.out, ptxt_itx])
            clear hs HP
            generalize hl : c.L k = l at *
            clear hl
            go_wp2_with fail
            go_loopw [5, 7] (fun o j y => y = wr ∧ ∃ (t : Nat) (v : List UInt8), t ≤ l.length ∧ j = .int .i64 t ∧ o = .string ⟨v.toArray⟩ ∧ v = u ++ itx l t) (fun _ j _ => l.length - (intOf j).toNat)
            case atStart => exact ⟨rfl, 0, u, by omega, rfl, rfl, by rw [itx_0]; simp⟩
            case round =>
              obtain ⟨hwy, t, v, ht, rfl, rfl, hv⟩ := hrel
              subst hwy
              have HV := Lib.hid hv
              have hvl : v.length ≤ 181 * k + 181 := by rw [hv, List.length_append]; have := HI.out t; omega
              clear hv
              by_cases hlt2 : t < l.length
              · obtain ⟨p1, o1, x1, q1, -, g1⟩ := ra.out.at (k := t) hlt2
                rw [HE1.out] at q1
                simp only [Value.slice.injEq] at q1
                obtain ⟨q1, -, -⟩ := q1
                subst q1
                obtain ⟨z, hz⟩ : ∃ z, l[t]? = some z := ⟨_, List.getElem?_eq_getElem hlt2⟩
                have f1 := g1 t z hz
                obtain ⟨z0, z1⟩ := HR.out z (List.mem_of_getElem? hz)
                have hzl := itoa_len z z0 z1
                have hti : (t : Int) < (l.length : Int) := by omega
                clear g1
                by_cases ht0 : 0 < t
                · have HZ := Lib.hid (show u ++ itx l (t + 1) = v ++ [44] ++ Lib.itoa z by rw [HV.out]; unfold itx; rw [itx_next l t z hz ht0]; simp)
                  have hs1 : (⟨v.toArray⟩ ++ ⟨#[44]⟩ : ByteArray) = ⟨(v ++ [44]).toArray⟩ := app_mk v [44]
                  have hs2 : (⟨(v ++ [44]).toArray⟩ ++ ⟨(Lib.itoa z).toArray⟩ : ByteArray) = ⟨(v ++ [44] ++ Lib.itoa z).toArray⟩ := app_mk (v ++ [44]) (Lib.itoa z)
                  have hvl2 : (v ++ [44]).length ≤ 181 * k + 182 := by simp; omega
                  have ht0i : (0 : Int) < (t : Int) := by omega
                  clear hz
                  generalize v ++ [44] = v2 at *
                  generalize v2 ++ Lib.itoa z = v3 at *
                  have HC := Lib.hid (rnumber36_any z wr z0 z1)
                  generalize Lib.itoa z = iz at *
                  go_wp2_with fail
                  refine HC.out.mono ?_
                  rintro e y1 ⟨rfl, rfl⟩
                  go_wp2
                  go_roundw
                  case rel => exact ⟨trivial, t + 1, v3, hlt2, by go_num, rfl, HZ.out.symm⟩
                  case measure => simp [intOf]; omega
                · have ht0i : ¬ (0 : Int) < (t : Int) := by omega
                  have HZ := Lib.hid (show u ++ itx l (t + 1) = v ++ Lib.itoa z by obtain rfl : t = 0 := (by omega); rw [HV.out, itx_0]; unfold itx; rw [itx_one l z hz]; simp)
                  have hs2 : (⟨v.toArray⟩ ++ ⟨(Lib.itoa z).toArray⟩ : ByteArray) = ⟨(v ++ Lib.itoa z).toArray⟩ := app_mk v (Lib.itoa z)
                  clear hz
                  generalize v ++ Lib.itoa z = v3 at *
                  have HC := Lib.hid (rnumber36_any z wr z0 z1)
                  generalize Lib.itoa z = iz at *
                  go_wp2_with fail
                  refine HC.out.mono ?_
                  rintro e y1 ⟨rfl, rfl⟩
                  go_wp2
                  go_roundw
                  case rel => exact ⟨trivial, t + 1, v3, hlt2, by go_num, rfl, HZ.out.symm⟩
                  case measure => simp [intOf]; omega
              · obtain rfl : t = l.length := by omega
                have HE := Lib.hid (show v = Lib.join (prts c (k + 1)) [32] by rw [HV.out, HQ.out])
                have hvl3 : v.length ≤ 181 * (k + 1) := by rw [HE.out]; exact HPL.out
                go_wp2
                go_roundw
                case rel => exact ⟨trivial, k + 1, v, by omega, by go_num, rfl, hvl3, HE.out⟩
                case measure => simp [intOf]; omega
      · obtain rfl : k = 5 := by omega
        have HE := Lib.hid (show u = wtxt c by rw [HU.out, prts_5])
        go_wp2
        go_ret2
        rw [HE.out]
        refine ⟨fun _ => rfl, ?_, K1.out⟩
        intro h; rw [HM.out] at h; exact absurd h (by decide)
end Go.Proofs.YtcmdjpgabkjbpaaGreatDoor
