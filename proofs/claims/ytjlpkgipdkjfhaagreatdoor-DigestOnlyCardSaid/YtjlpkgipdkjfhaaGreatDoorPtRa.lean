import Derived.Test.YtjlpkgipdkjfhaaGreatDoorTd
import Derived.Test.YtjlpkgipdkjfhaaGreatDoorRa
set_option linter.unusedSimpArgs false
set_option linter.unusedVariables false
namespace Go.Proofs.YtjlpkgipdkjfhaaGreatDoor.Bk.Pt
open Go.ChangeShapes Go.WideShapes Go.ChangeAt Go.RowKit Go.Shelf
open Go.Lib (NoOcc occAt)
def atV (s x : B) (k : Nat) : Int := if Lib.index (s.drop k) x = -1 then -1 else Lib.index (s.drop k) x + k
theorem slice_at (s x : B) (i : Nat) (h : i + x.length ≤ s.length) (W : World) :
    (Instr.slice 9 (.string ⟨s.toArray⟩) (some (.int .i64 i)) (some (.int .i64 ((i : Int) + (x.length : Int)))) none).run Tryz.prog W = .ok (.string ⟨((s.drop i).take x.length).toArray⟩) W := by
  have := Hd.cut_both s i (i + x.length) (by omega) h W
  rw [List.drop_take, show i + x.length - i = x.length by omega] at this
  rw [← this, Int.natCast_add]
set_option maxRecDepth 100000 in
set_option maxHeartbeats 1000000 in
theorem at_any (s x : B) (k : Nat) (w : World) (hx : x ≠ []) (hk : k ≤ s.length) (hs : s.length ≤ 1000000000) (hxl : x.length ≤ 1000000000) :
    Calls Tryz.prog 108 #[sV s, sV x, iV k] w fun e w' => e = .returned (iV (atV s x k)) ∧ w' = w := by
  have hss : (ByteArray.mk s.toArray).size = s.length := List.size_toArray
  have hxs : (ByteArray.mk x.toArray).size = x.length := List.size_toArray
  have HX := Lib.hid hx
  clear hx
  go_enter Tryz.func108, Tryz.ntmps108
  go_wp2_with fail
  go_loopw [7] (fun vi wr => ∃ j : Nat, k + j ≤ s.length ∧ vi = .int .i64 (k + j : Nat) ∧ Hid (NoOcc (s.drop k) x j) ∧ w = wr) (fun vi _ => s.length - (intOf vi).toNat)
  case atStart => exact ⟨0, by omega, by simp, Lib.hid (Lib.NoOcc.zero _ _), rfl⟩
  case round =>
    obtain ⟨j, hj, rfl, hN, rfl⟩ := hrel
    obtain ⟨i, hi⟩ : ∃ i, k + j = i := ⟨_, rfl⟩
    rw [hi]
    have hib : (i : Int) ≤ s.length := by omega
    by_cases hle : (i : Int) + x.length ≤ s.length
    · have hsl := slice_at s x i (by omega)
      have HO := Lib.hid (Lib.occAt_iff_take (s.drop k) x j (by simp; omega))
      rw [List.drop_drop, hi] at HO
      have HI := Lib.hid hi
      clear hi
      generalize (s.drop i).take x.length = T at *
      cases hT : (T == x) with
      | true =>
        have HZ := Lib.hid (show atV s x k = i by
          have := Lib.index_hit hN.out (by simp; have := HI.out; omega) (HO.out.trans hT)
          unfold atV
          rw [this, if_neg (by omega)]
          have := HI.out
          omega)
        go_wp2
        go_ret
        exact ⟨by rw [HZ.out]; rfl, rfl⟩
      | false =>
        have HN := Lib.hid (hN.out.succ (HO.out.trans hT))
        have HI2 := Lib.hid (show k + (j + 1) = i + 1 by have := HI.out; omega)
        have hxp := List.length_pos_iff.2 HX.out
        go_wp2
        go_roundw
        case rel => exact ⟨j + 1, by have := HI.out; omega, by rw [HI2.out]; go_num, HN, by first | rfl | exact trivial⟩
        case measure => simp [intOf]; omega
    · have HZ := Lib.hid (show atV s x k = -1 by
        unfold atV
        rw [Lib.index_past HX.out hN.out (by simp; omega), if_pos rfl])
      clear hi
      go_wp2
      go_ret
      exact ⟨by rw [HZ.out]; rfl, rfl⟩
def prD (m : Nat) : List UInt8 := if m = 0 then [] else Lib.decDigits m
theorem prD_step (m : Nat) (h : 0 < m) : prD m = prD (m / 10) ++ [UInt8.ofNat (48 + m % 10)] := by
  unfold prD
  rw [if_neg (by omega)]
  by_cases h10 : m < 10
  · rw [if_pos (by omega), Lib.decDigits_one h10, Nat.mod_eq_of_lt h10]; rfl
  · rw [if_neg (by omega), Lib.decDigits, dif_neg h10]
theorem dec_prD (m : Nat) : Lib.decDigits m = prD (m / 10) ++ [UInt8.ofNat (48 + m % 10)] := by
  by_cases h : m = 0
  · subst h; rw [Lib.decDigits_one (by omega)]; rfl
  · rw [← prD_step m (by omega), prD, if_neg h]
theorem digitR_at (k : Nat) (h : k < 10) : (ByteArray.mk #[48, 49, 50, 51, 52, 53, 54, 55, 56, 57]).extract k (k + 1) = ⟨#[UInt8.ofNat (48 + k)]⟩ := by
  have : k = 0 ∨ k = 1 ∨ k = 2 ∨ k = 3 ∨ k = 4 ∨ k = 5 ∨ k = 6 ∨ k = 7 ∨ k = 8 ∨ k = 9 := by omega
  rcases this with rfl | rfl | rfl | rfl | rfl | rfl | rfl | rfl | rfl | rfl <;> rfl
def NbR (n : Nat) (a b : Value) : Prop := ∃ (m : Nat) (o : List UInt8), m ≤ n ∧ a = .int .i64 m ∧ b = .string ⟨o.toArray⟩ ∧ Lib.decDigits n = prD m ++ o ∧ o.length + m ≤ n + 1
theorem slice_digitR (n : Nat) (w : World) : (Instr.slice 9 (.string ⟨#[48, 49, 50, 51, 52, 53, 54, 55, 56, 57]⟩) (some (.int .i64 ((n : Int) % 10))) (some (.int .i64 ((n : Int) % 10 + 1))) none).run Tryz.prog w = .ok (.string ⟨#[UInt8.ofNat (48 + n % 10)]⟩) w := by
  rw [run_slice_string w 9 _ .i64 .i64 _ _ Tryz.underlying9 (by omega) (by omega) (by show (n : Int) % 10 + 1 ≤ 10; omega)]
  rw [show ((n : Int) % 10).toNat = n % 10 by omega, show ((n : Int) % 10 + 1).toNat = n % 10 + 1 by omega, digitR_at _ (by omega)]
theorem ret_bytes {a b : ByteArray} (h : a = b) : Ending.returned (.string a) = .returned (.string b) := by rw [h]
set_option maxHeartbeats 1000000 in
theorem rnumber_nat (n : Nat) (w : World) (hn : n ≤ 2000000000) :
    Calls Tryz.prog 32 #[.int .i64 n] w fun e w' => e = .returned (.string ⟨(Lib.decDigits n).toArray⟩) ∧ w = w' := by
  have hx := slice_digitR n
  have hd := Lib.hid (dec_prD n)
  go_enter Tryz.func32, Tryz.ntmps32
  go_wp2_with fail
  clear hx
  go_loop [0, 3] (fun a b => NbR n a b) (fun a _ => (intOf a).toNat)
  case atStart => exact ⟨n / 10, [UInt8.ofNat (48 + n % 10)], by omega, by go_num, by simp, hd.out, by simp only [List.length_cons, List.length_nil]; omega⟩
  case round =>
    obtain ⟨m, o, hm, rfl, rfl, hD, hl⟩ := hrel
    have HD := Lib.hid hD; clear hD
    by_cases h0 : 0 < m
    · have hx := slice_digitR m
      have hp := Lib.hid (prD_step m h0)
      go_wp2
      go_round
      case rel => exact ⟨m / 10, UInt8.ofNat (48 + m % 10) :: o, by omega, by go_num, by congr 1; apply ByteArray.ext; simp [ByteArray.data_append], by rw [HD.out, hp.out]; simp, by simp only [List.length_cons]; omega⟩
      case measure => simp [intOf]; omega
    · have hE := Lib.hid (show Lib.decDigits n = o by rw [HD.out, show m = 0 by omega]; rfl)
      go_wp2
      go_ret
      exact ⟨ret_bytes (by rw [hE.out]), rfl⟩
end Go.Proofs.YtjlpkgipdkjfhaaGreatDoor.Bk.Pt
