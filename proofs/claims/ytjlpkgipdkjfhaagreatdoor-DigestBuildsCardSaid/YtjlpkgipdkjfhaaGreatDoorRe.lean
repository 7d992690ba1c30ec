import Derived.Test.YtjlpkgipdkjfhaaGreatDoorEnRefB
import Derived.Test.YtjlpkgipdkjfhaaGreatDoorEa
set_option linter.unusedVariables false
set_option linter.unusedSimpArgs false
namespace Go.Proofs.YtjlpkgipdkjfhaaGreatDoor
open Go.ChangeShapes Go.WideShapes Go.ChangeAt Go.RowKit
open En
theorem ei_ret {k : IntKind} {a b : Int} (h : a = b) : Ending.returned (.int k a) = .returned (.int k b) := by rw [h]
set_option maxHeartbeats 1000000 in
theorem rdigit_any (c : UInt8) (w : World) : Calls Tryz.prog 256 #[.int .u8 c.toNat] w fun e w' => e = .returned (.int .i64 (dg c)) ∧ w = w' := by
  have hb := c.toNat_lt
  rcases (show c.toNat < 48 ∨ (48 ≤ c.toNat ∧ c.toNat ≤ 57) ∨ (58 ≤ c.toNat ∧ c.toNat ≤ 64) ∨ (65 ≤ c.toNat ∧ c.toNat ≤ 70) ∨ (71 ≤ c.toNat ∧ c.toNat ≤ 96) ∨ (97 ≤ c.toNat ∧ c.toNat ≤ 102) ∨ 103 ≤ c.toNat by omega) with h | h | h | h | h | h | h
  · have HS := Lib.hid (show dg c = 99 by unfold dg; repeat (first | rw [if_pos (by omega)] | rw [if_neg (by omega)]))
    have f0 : (c.toNat : Int) < 48 := by omega
    have f1 : (c.toNat : Int) < 97 := by omega
    have f2 : (c.toNat : Int) < 65 := by omega
    have f3 : (c.toNat : Int) ≤ 57 := by omega
    have f4 : (c.toNat : Int) ≤ 102 := by omega
    have f5 : (c.toNat : Int) ≤ 70 := by omega
    clear h
    go_enter Tryz.func256, Tryz.ntmps256
    go_wp2
    go_ret
    exact ⟨ei_ret (by rw [HS.out]; try omega), rfl⟩
  · have HS := Lib.hid (show dg c = (c.toNat : Int) - 48 by unfold dg; repeat (first | rw [if_pos (by omega)] | rw [if_neg (by omega)]))
    have f0 : (48 : Int) ≤ (c.toNat : Int) := by omega
    have f1 : (c.toNat : Int) < 97 := by omega
    have f2 : (c.toNat : Int) < 65 := by omega
    have f3 : (c.toNat : Int) ≤ 57 := by omega
    have f4 : (c.toNat : Int) ≤ 102 := by omega
    have f5 : (c.toNat : Int) ≤ 70 := by omega
    have g3 : ((c.toNat : Int) - 48) % 256 = (c.toNat : Int) - 48 := by omega
    clear h
    go_enter Tryz.func256, Tryz.ntmps256
    go_wp2
    go_ret
    exact ⟨ei_ret (by rw [HS.out]; try omega), rfl⟩
  · have HS := Lib.hid (show dg c = 99 by unfold dg; repeat (first | rw [if_pos (by omega)] | rw [if_neg (by omega)]))
    have f0 : (48 : Int) ≤ (c.toNat : Int) := by omega
    have f1 : (c.toNat : Int) < 97 := by omega
    have f2 : (c.toNat : Int) < 65 := by omega
    have f3 : (57 : Int) < (c.toNat : Int) := by omega
    have f4 : (c.toNat : Int) ≤ 102 := by omega
    have f5 : (c.toNat : Int) ≤ 70 := by omega
    clear h
    go_enter Tryz.func256, Tryz.ntmps256
    go_wp2
    go_ret
    exact ⟨ei_ret (by rw [HS.out]; try omega), rfl⟩
  · have HS := Lib.hid (show dg c = (c.toNat : Int) - 55 by unfold dg; repeat (first | rw [if_pos (by omega)] | rw [if_neg (by omega)]))
    have f0 : (48 : Int) ≤ (c.toNat : Int) := by omega
    have f1 : (c.toNat : Int) < 97 := by omega
    have f2 : (65 : Int) ≤ (c.toNat : Int) := by omega
    have f3 : (57 : Int) < (c.toNat : Int) := by omega
    have f4 : (c.toNat : Int) ≤ 102 := by omega
    have f5 : (c.toNat : Int) ≤ 70 := by omega
    have g3 : ((c.toNat : Int) - 65) % 256 = (c.toNat : Int) - 65 := by omega
    clear h
    go_enter Tryz.func256, Tryz.ntmps256
    go_wp2
    go_ret
    exact ⟨ei_ret (by rw [HS.out]; try omega), rfl⟩
  · have HS := Lib.hid (show dg c = 99 by unfold dg; repeat (first | rw [if_pos (by omega)] | rw [if_neg (by omega)]))
    have f0 : (48 : Int) ≤ (c.toNat : Int) := by omega
    have f1 : (c.toNat : Int) < 97 := by omega
    have f2 : (65 : Int) ≤ (c.toNat : Int) := by omega
    have f3 : (57 : Int) < (c.toNat : Int) := by omega
    have f4 : (c.toNat : Int) ≤ 102 := by omega
    have f5 : (70 : Int) < (c.toNat : Int) := by omega
    clear h
    go_enter Tryz.func256, Tryz.ntmps256
    go_wp2
    go_ret
    exact ⟨ei_ret (by rw [HS.out]; try omega), rfl⟩
  · have HS := Lib.hid (show dg c = (c.toNat : Int) - 87 by unfold dg; repeat (first | rw [if_pos (by omega)] | rw [if_neg (by omega)]))
    have f0 : (48 : Int) ≤ (c.toNat : Int) := by omega
    have f1 : (97 : Int) ≤ (c.toNat : Int) := by omega
    have f2 : (65 : Int) ≤ (c.toNat : Int) := by omega
    have f3 : (57 : Int) < (c.toNat : Int) := by omega
    have f4 : (c.toNat : Int) ≤ 102 := by omega
    have f5 : (70 : Int) < (c.toNat : Int) := by omega
    have g3 : ((c.toNat : Int) - 97) % 256 = (c.toNat : Int) - 97 := by omega
    clear h
    go_enter Tryz.func256, Tryz.ntmps256
    go_wp2
    go_ret
    exact ⟨ei_ret (by rw [HS.out]; try omega), rfl⟩
  · have HS := Lib.hid (show dg c = 99 by unfold dg; repeat (first | rw [if_pos (by omega)] | rw [if_neg (by omega)]))
    have f0 : (48 : Int) ≤ (c.toNat : Int) := by omega
    have f1 : (97 : Int) ≤ (c.toNat : Int) := by omega
    have f2 : (65 : Int) ≤ (c.toNat : Int) := by omega
    have f3 : (57 : Int) < (c.toNat : Int) := by omega
    have f4 : (102 : Int) < (c.toNat : Int) := by omega
    have f5 : (70 : Int) < (c.toNat : Int) := by omega
    clear h
    go_enter Tryz.func256, Tryz.ntmps256
    go_wp2
    go_ret
    exact ⟨ei_ret (by rw [HS.out]; try omega), rfl⟩
def cap (m : Int) : Int := if 1114111 < m then 1114112 else m
def nmV (base : Int) (l : List UInt8) : Int := match num base l with | none => -1 | some m => cap m
theorem cap_bd {m : Int} (h : 0 ≤ m) : 0 ≤ cap m ∧ cap m ≤ 1114112 := by unfold cap; split <;> omega
theorem cap_step {base m d : Int} (hb : base = 10 ∨ base = 16) (h : 0 ≤ m) (hd : 0 ≤ d) : cap (base * cap m + d) = cap (base * m + d) := by
  unfold cap
  rcases hb with rfl | rfl <;> by_cases q : 1114111 < m
  · rw [if_pos q, if_pos (by omega), if_pos (by omega)]
  · rw [if_neg q]
  · rw [if_pos q, if_pos (by omega), if_pos (by omega)]
  · rw [if_neg q]
set_option maxRecDepth 100000 in
set_option maxHeartbeats 2000000 in
theorem rnumber_any (l : List UInt8) (base : Int) (w : World) (hb : base = 10 ∨ base = 16) (hl : l.length ≤ 1000000) : Calls Tryz.prog 221 #[.string ⟨l.toArray⟩, .int .i64 base] w fun e w' => e = .returned (.int .i64 (nmV base l)) ∧ w = w' := by
  have HV := Lib.hid (show nmV base l = match num base l with | none => -1 | some m => cap m from rfl)
  have hbb : 10 ≤ base ∧ base ≤ 16 := by omega
  have HB := Lib.hid hb
  clear hb
  go_enter Tryz.func221, Tryz.ntmps221
  go_wp2_with fail
  go_loopw [5, 6, 7] (fun a i _ y => y = w ∧ ∃ (k : Nat) (m : Int), k ≤ l.length ∧ i = .int .i64 k ∧ 0 ≤ m ∧ a = .int .i64 (cap m) ∧ numF base 0 l = numF base m (l.drop k)) (fun _ i _ _ => l.length - (intOf i).toNat)
  case atStart => exact ⟨rfl, 0, 0, Nat.zero_le _, rfl, Int.le_refl _, rfl, rfl⟩
  case round =>
    obtain ⟨rfl, k, m, hk, rfl, hm, rfl, ht⟩ := hrel
    have HT := Lib.hid ht
    clear ht
    obtain ⟨m1, m2⟩ := cap_bd hm
    by_cases hlt : k < l.length
    · obtain ⟨a, ha⟩ : ∃ a, l[k]? = some a := ⟨_, List.getElem?_eq_getElem hlt⟩
      have HD := Lib.hid (drop_at ha)
      have hat := byte_at l k a ha
      obtain ⟨d1, d2⟩ := dg_bd a
      have HC := Lib.hid (cap_step HB.out hm d1)
      have HN := Lib.hid (show numF base 0 l = if dg a < base then numF base (base * m + dg a) (l.drop (k + 1)) else none by rw [HT.out, HD.out, numF])
      have hne : l ≠ [] := fun e => by rw [e] at ha; cases ha
      have HNE := Lib.hid hne
      clear ha HT HD hne
      go_wp2_with fail
      refine (rdigit_any a _).mono ?_
      rintro e x2 ⟨rfl, rfl⟩
      generalize hdg : dg a = d at *
      clear hdg
      by_cases hge : base ≤ d
      · have HR := Lib.hid (show nmV base l = -1 by rw [HV.out]; unfold num; rw [if_neg HNE.out, HN.out, if_neg (by omega)])
        go_wp2
        go_ret
        exact ⟨ei_ret (by rw [HR.out]), rfl⟩
      · have HS := Lib.hid (show numF base 0 l = numF base (base * m + d) (l.drop (k + 1)) by rw [HN.out, if_pos (by omega)])
        have hmm : 0 ≤ base * m + d := Int.add_nonneg (Int.mul_nonneg (by omega) hm) d1
        have HMM := Lib.hid hmm
        generalize hcm : cap m = cm at *
        have hp1 : 0 ≤ base * cm := Int.mul_nonneg (by omega) m1
        have hp2 : base * cm ≤ 16 * 1114112 := Int.le_trans (Int.mul_le_mul_of_nonneg_right (show base ≤ 16 by omega) m1) (by omega)
        have HC2 := Lib.hid (show cap (base * m + d) = if 1114111 < base * cm + d then 1114112 else base * cm + d by rw [← HC.out]; rfl)
        clear hmm hcm HC HN
        generalize hpm : base * m + d = mm at *
        clear hpm
        have hpc : base * cm + d ≤ 20000000 := by omega
        by_cases hbig : 1114111 < base * cm + d
        · have HE := Lib.hid (show cap mm = 1114112 by rw [HC2.out, if_pos hbig])
          go_wp2
          go_roundw
          case rel => exact ⟨trivial, k + 1, mm, hlt, by go_num, HMM.out, by rw [HE.out], HS.out⟩
          case measure => simp [intOf]; omega
        · have HE := Lib.hid (show cap mm = base * cm + d by rw [HC2.out, if_neg hbig])
          go_wp2
          go_roundw
          case rel => exact ⟨trivial, k + 1, mm, hlt, by go_num, HMM.out, by rw [HE.out], HS.out⟩
          case measure => simp [intOf]; omega
    · obtain rfl : k = l.length := by omega
      by_cases h0 : l.length = 0
      · obtain rfl : l = [] := List.length_eq_zero_iff.1 h0
        have HR := Lib.hid (show nmV base [] = -1 from rfl)
        go_wp2
        go_ret
        exact ⟨ei_ret (by rw [HR.out]), rfl⟩
      · have HR := Lib.hid (show nmV base l = cap m by
          rw [HV.out]; unfold num
          rw [if_neg (fun e => h0 (by rw [e]; rfl)), HT.out, List.drop_eq_nil_of_le (Nat.le_refl _)]; rfl)
        have h1 : ¬ (l.length : Int) = 0 := by omega
        have h2 : ((l.length : Int) == 0) = false := beq_eq_false_iff_ne.2 h1
        go_wp2
        go_ret
        exact ⟨ei_ret (by rw [HR.out]), rfl⟩
theorem by8_nat {n : Int} (h0 : 0 ≤ n) (h1 : n < 256) : ((by8 n).toNat : Int) = n := by
  unfold by8
  rw [UInt8.toNat_ofNat']
  omega
theorem conv_lit (W : World) (l : List UInt8) : (convert 25 9 (.slice (some ⟨W.heap.size, 0, none⟩) l.length l.length)).run Tryz.prog (W.alloc (.cells (bc l).toArray 5)) = .ok (.string ⟨l.toArray⟩) (W.alloc (.cells (bc l).toArray 5)) := by
  refine run_convert_bytes_back _ _ _ 5 ⟨W.heap.size, 0, none⟩ l.length l Tryz.underlying25 Tryz.underlying5 Tryz.underlying9 (fun j hj => ?_)
  have ha : ((⟨W.heap.size, 0, none⟩ : Addr).add j) = ⟨W.heap.size, j, none⟩ := by simp [Addr.add]; omega
  rw [ha, World.cell?_alloc_mark]
  simp [bc, hj]
set_option maxRecDepth 100000 in
set_option maxHeartbeats 4000000 in
theorem rrune_any (n : Int) (w : World) : Calls Tryz.prog 222 #[.int .i64 n] w fun e w' => e = .returned (.tuple #[.string ⟨(rnS n).toArray⟩, .bool (okN n)]) ∧ Kept w w' := by
  rcases (show n < 9 ∨ n = 9 ∨ n = 10 ∨ (11 ≤ n ∧ n ≤ 12) ∨ n = 13 ∨ (14 ≤ n ∧ n ≤ 31) ∨ (32 ≤ n ∧ n < 128) ∨ (128 ≤ n ∧ n < 2048) ∨ (2048 ≤ n ∧ n ≤ 55295) ∨ (55296 ≤ n ∧ n ≤ 57343) ∨ (57344 ≤ n ∧ n ≤ 65533) ∨ (65534 ≤ n ∧ n ≤ 65535) ∨ (65536 ≤ n ∧ n ≤ 1114111) ∨ 1114112 ≤ n by omega) with h | h | h | h | h | h | h | h | h | h | h | h | h | h
  · have HK := Lib.hid (show okN n = false by unfold okN; simp; omega)
    have b0 : (n == 9) = false := by simp; omega
    have b1 : (n == 10) = false := by simp; omega
    have b2 : (n == 13) = false := by simp; omega
    have c0 : decide (32 ≤ n) = false := by simp; omega
    have c1 : decide (57344 ≤ n) = false := by simp; omega
    have c2 : decide (65536 ≤ n) = false := by simp; omega
    have c3 : decide (n ≤ 55295) = true := by simp; omega
    have c4 : decide (n ≤ 65533) = true := by simp; omega
    have c5 : decide (n ≤ 1114111) = true := by simp; omega
    have HS := Lib.hid (show rnS n = [] by unfold rnS rn; rw [HK.out]; rfl)
    clear h
    go_enter Tryz.func222, Tryz.ntmps222
    go_wp2
    go_ret2
    exact ⟨by rw [HS.out, HK.out]; rfl, Kept.refl _⟩
  · subst h
    have hcv : ∀ W : World, (convert 25 9 (.slice (some ⟨W.heap.size, 0, none⟩) 1 1)).run Tryz.prog (W.alloc (.cells #[.int .u8 9] 5)) = .ok (.string ⟨#[9]⟩) (W.alloc (.cells #[.int .u8 9] 5)) := fun W => conv_lit W [9]
    go_enter Tryz.func222, Tryz.ntmps222
    go_wp2
    go_ret2
    exact ⟨rfl, (Kept.refl _).alloc _⟩
  · subst h
    have hcv : ∀ W : World, (convert 25 9 (.slice (some ⟨W.heap.size, 0, none⟩) 1 1)).run Tryz.prog (W.alloc (.cells #[.int .u8 10] 5)) = .ok (.string ⟨#[10]⟩) (W.alloc (.cells #[.int .u8 10] 5)) := fun W => conv_lit W [10]
    go_enter Tryz.func222, Tryz.ntmps222
    go_wp2
    go_ret2
    exact ⟨rfl, (Kept.refl _).alloc _⟩
  · have HK := Lib.hid (show okN n = false by unfold okN; simp; omega)
    have b0 : (n == 9) = false := by simp; omega
    have b1 : (n == 10) = false := by simp; omega
    have b2 : (n == 13) = false := by simp; omega
    have c0 : decide (32 ≤ n) = false := by simp; omega
    have c1 : decide (57344 ≤ n) = false := by simp; omega
    have c2 : decide (65536 ≤ n) = false := by simp; omega
    have c3 : decide (n ≤ 55295) = true := by simp; omega
    have c4 : decide (n ≤ 65533) = true := by simp; omega
    have c5 : decide (n ≤ 1114111) = true := by simp; omega
    have HS := Lib.hid (show rnS n = [] by unfold rnS rn; rw [HK.out]; rfl)
    clear h
    go_enter Tryz.func222, Tryz.ntmps222
    go_wp2
    go_ret2
    exact ⟨by rw [HS.out, HK.out]; rfl, Kept.refl _⟩
  · subst h
    have hcv : ∀ W : World, (convert 25 9 (.slice (some ⟨W.heap.size, 0, none⟩) 1 1)).run Tryz.prog (W.alloc (.cells #[.int .u8 13] 5)) = .ok (.string ⟨#[13]⟩) (W.alloc (.cells #[.int .u8 13] 5)) := fun W => conv_lit W [13]
    go_enter Tryz.func222, Tryz.ntmps222
    go_wp2
    go_ret2
    exact ⟨rfl, (Kept.refl _).alloc _⟩
  · have HK := Lib.hid (show okN n = false by unfold okN; simp; omega)
    have b0 : (n == 9) = false := by simp; omega
    have b1 : (n == 10) = false := by simp; omega
    have b2 : (n == 13) = false := by simp; omega
    have c0 : decide (32 ≤ n) = false := by simp; omega
    have c1 : decide (57344 ≤ n) = false := by simp; omega
    have c2 : decide (65536 ≤ n) = false := by simp; omega
    have c3 : decide (n ≤ 55295) = true := by simp; omega
    have c4 : decide (n ≤ 65533) = true := by simp; omega
    have c5 : decide (n ≤ 1114111) = true := by simp; omega
    have HS := Lib.hid (show rnS n = [] by unfold rnS rn; rw [HK.out]; rfl)
    clear h
    go_enter Tryz.func222, Tryz.ntmps222
    go_wp2
    go_ret2
    exact ⟨by rw [HS.out, HK.out]; rfl, Kept.refl _⟩
  · have HK := Lib.hid (show okN n = true by unfold okN; simp; omega)
    have b0 : (n == 9) = false := by simp; omega
    have b1 : (n == 10) = false := by simp; omega
    have b2 : (n == 13) = false := by simp; omega
    have c0 : decide (32 ≤ n) = true := by simp; omega
    have c1 : decide (57344 ≤ n) = false := by simp; omega
    have c2 : decide (65536 ≤ n) = false := by simp; omega
    have c3 : decide (n ≤ 55295) = true := by simp; omega
    have c4 : decide (n ≤ 65533) = true := by simp; omega
    have c5 : decide (n ≤ 1114111) = true := by simp; omega
    have c6 : n < 128 := by omega
    have c7 : n < 2048 := by omega
    have c8 : n < 65536 := by omega
    have HS := Lib.hid (show rnS n = [by8 n] by unfold rnS rn; rw [HK.out, if_pos rfl]; unfold utf; rw [if_pos (by omega)]; rfl)
    have n0 := by8_nat (n := n) (by omega) (by omega)
    have hcv := fun W => conv_lit W [by8 n]
    simp only [bc, List.map_cons, List.map_nil, List.length_cons, List.length_nil, Nat.zero_add] at hcv
    simp only [n0] at hcv
    have g1 : 32 ≤ n := by omega
    have g2 : n ≤ 127 := by omega
    clear h n0
    go_enter Tryz.func222, Tryz.ntmps222
    go_wp2
    go_ret2
    exact ⟨by rw [HS.out, HK.out]; rfl, (Kept.refl _).alloc _⟩
  · have HK := Lib.hid (show okN n = true by unfold okN; simp; omega)
    have b0 : (n == 9) = false := by simp; omega
    have b1 : (n == 10) = false := by simp; omega
    have b2 : (n == 13) = false := by simp; omega
    have c0 : decide (32 ≤ n) = true := by simp; omega
    have c1 : decide (57344 ≤ n) = false := by simp; omega
    have c2 : decide (65536 ≤ n) = false := by simp; omega
    have c3 : decide (n ≤ 55295) = true := by simp; omega
    have c4 : decide (n ≤ 65533) = true := by simp; omega
    have c5 : decide (n ≤ 1114111) = true := by simp; omega
    have c6 : ¬ n < 128 := by omega
    have c7 : n < 2048 := by omega
    have c8 : n < 65536 := by omega
    have HS := Lib.hid (show rnS n = [by8 (192 + n / 64), by8 (128 + n % 64)] by unfold rnS rn; rw [HK.out, if_pos rfl]; unfold utf; rw [if_neg (by omega), if_pos (by omega)]; rfl)
    have n0 := by8_nat (n := 192 + n / 64) (by omega) (by omega)
    have n1 := by8_nat (n := 128 + n % 64) (by omega) (by omega)
    have hcv := fun W => conv_lit W [by8 (192 + n / 64), by8 (128 + n % 64)]
    simp only [bc, List.map_cons, List.map_nil, List.length_cons, List.length_nil, Nat.zero_add, Nat.reduceAdd] at hcv
    simp only [n0, n1] at hcv
    have q64 : n.tdiv 64 = n / 64 := Int.tdiv_eq_ediv_of_nonneg (by omega)
    have r64 : n.tmod 64 = n % 64 := Int.tmod_eq_emod_of_nonneg (by omega)
    have g1 : 128 ≤ n := by omega
    have g2 : n ≤ 2047 := by omega
    clear h n0 n1
    go_enter Tryz.func222, Tryz.ntmps222
    go_wp2
    go_ret2
    exact ⟨by rw [HS.out, HK.out]; rfl, (Kept.refl _).alloc _⟩
  · have HK := Lib.hid (show okN n = true by unfold okN; simp; omega)
    have b0 : (n == 9) = false := by simp; omega
    have b1 : (n == 10) = false := by simp; omega
    have b2 : (n == 13) = false := by simp; omega
    have c0 : decide (32 ≤ n) = true := by simp; omega
    have c1 : decide (57344 ≤ n) = false := by simp; omega
    have c2 : decide (65536 ≤ n) = false := by simp; omega
    have c3 : decide (n ≤ 55295) = true := by simp; omega
    have c4 : decide (n ≤ 65533) = true := by simp; omega
    have c5 : decide (n ≤ 1114111) = true := by simp; omega
    have c6 : ¬ n < 128 := by omega
    have c7 : ¬ n < 2048 := by omega
    have c8 : n < 65536 := by omega
    have HS := Lib.hid (show rnS n = [by8 (224 + n / 4096), by8 (128 + n / 64 % 64), by8 (128 + n % 64)] by unfold rnS rn; rw [HK.out, if_pos rfl]; unfold utf; rw [if_neg (by omega), if_neg (by omega), if_pos (by omega)]; rfl)
    have n0 := by8_nat (n := 224 + n / 4096) (by omega) (by omega)
    have n1 := by8_nat (n := 128 + n / 64 % 64) (by omega) (by omega)
    have n2 := by8_nat (n := 128 + n % 64) (by omega) (by omega)
    have hcv := fun W => conv_lit W [by8 (224 + n / 4096), by8 (128 + n / 64 % 64), by8 (128 + n % 64)]
    simp only [bc, List.map_cons, List.map_nil, List.length_cons, List.length_nil, Nat.zero_add, Nat.reduceAdd] at hcv
    simp only [n0, n1, n2] at hcv
    have q4096 : n.tdiv 4096 = n / 4096 := Int.tdiv_eq_ediv_of_nonneg (by omega)
    have q64 : n.tdiv 64 = n / 64 := Int.tdiv_eq_ediv_of_nonneg (by omega)
    have r64 : n.tmod 64 = n % 64 := Int.tmod_eq_emod_of_nonneg (by omega)
    have rq64 : (n / 64).tmod 64 = n / 64 % 64 := Int.tmod_eq_emod_of_nonneg (by omega)
    have g1 : 2048 ≤ n := by omega
    have g2 : n ≤ 55295 := by omega
    clear h n0 n1 n2
    go_enter Tryz.func222, Tryz.ntmps222
    go_wp2
    go_ret2
    exact ⟨by rw [HS.out, HK.out]; rfl, (Kept.refl _).alloc _⟩
  · have HK := Lib.hid (show okN n = false by unfold okN; simp; omega)
    have b0 : (n == 9) = false := by simp; omega
    have b1 : (n == 10) = false := by simp; omega
    have b2 : (n == 13) = false := by simp; omega
    have c0 : decide (32 ≤ n) = true := by simp; omega
    have c1 : decide (57344 ≤ n) = false := by simp; omega
    have c2 : decide (65536 ≤ n) = false := by simp; omega
    have c3 : decide (n ≤ 55295) = false := by simp; omega
    have c4 : decide (n ≤ 65533) = true := by simp; omega
    have c5 : decide (n ≤ 1114111) = true := by simp; omega
    have HS := Lib.hid (show rnS n = [] by unfold rnS rn; rw [HK.out]; rfl)
    clear h
    go_enter Tryz.func222, Tryz.ntmps222
    go_wp2
    go_ret2
    exact ⟨by rw [HS.out, HK.out]; rfl, Kept.refl _⟩
  · have HK := Lib.hid (show okN n = true by unfold okN; simp; omega)
    have b0 : (n == 9) = false := by simp; omega
    have b1 : (n == 10) = false := by simp; omega
    have b2 : (n == 13) = false := by simp; omega
    have c0 : decide (32 ≤ n) = true := by simp; omega
    have c1 : decide (57344 ≤ n) = true := by simp; omega
    have c2 : decide (65536 ≤ n) = false := by simp; omega
    have c3 : decide (n ≤ 55295) = false := by simp; omega
    have c4 : decide (n ≤ 65533) = true := by simp; omega
    have c5 : decide (n ≤ 1114111) = true := by simp; omega
    have c6 : ¬ n < 128 := by omega
    have c7 : ¬ n < 2048 := by omega
    have c8 : n < 65536 := by omega
    have HS := Lib.hid (show rnS n = [by8 (224 + n / 4096), by8 (128 + n / 64 % 64), by8 (128 + n % 64)] by unfold rnS rn; rw [HK.out, if_pos rfl]; unfold utf; rw [if_neg (by omega), if_neg (by omega), if_pos (by omega)]; rfl)
    have n0 := by8_nat (n := 224 + n / 4096) (by omega) (by omega)
    have n1 := by8_nat (n := 128 + n / 64 % 64) (by omega) (by omega)
    have n2 := by8_nat (n := 128 + n % 64) (by omega) (by omega)
    have hcv := fun W => conv_lit W [by8 (224 + n / 4096), by8 (128 + n / 64 % 64), by8 (128 + n % 64)]
    simp only [bc, List.map_cons, List.map_nil, List.length_cons, List.length_nil, Nat.zero_add, Nat.reduceAdd] at hcv
    simp only [n0, n1, n2] at hcv
    have q4096 : n.tdiv 4096 = n / 4096 := Int.tdiv_eq_ediv_of_nonneg (by omega)
    have q64 : n.tdiv 64 = n / 64 := Int.tdiv_eq_ediv_of_nonneg (by omega)
    have r64 : n.tmod 64 = n % 64 := Int.tmod_eq_emod_of_nonneg (by omega)
    have rq64 : (n / 64).tmod 64 = n / 64 % 64 := Int.tmod_eq_emod_of_nonneg (by omega)
    have g1 : 57344 ≤ n := by omega
    have g2 : n ≤ 65533 := by omega
    clear h n0 n1 n2
    go_enter Tryz.func222, Tryz.ntmps222
    go_wp2
    go_ret2
    exact ⟨by rw [HS.out, HK.out]; rfl, (Kept.refl _).alloc _⟩
  · have HK := Lib.hid (show okN n = false by unfold okN; simp; omega)
    have b0 : (n == 9) = false := by simp; omega
    have b1 : (n == 10) = false := by simp; omega
    have b2 : (n == 13) = false := by simp; omega
    have c0 : decide (32 ≤ n) = true := by simp; omega
    have c1 : decide (57344 ≤ n) = true := by simp; omega
    have c2 : decide (65536 ≤ n) = false := by simp; omega
    have c3 : decide (n ≤ 55295) = false := by simp; omega
    have c4 : decide (n ≤ 65533) = false := by simp; omega
    have c5 : decide (n ≤ 1114111) = true := by simp; omega
    have HS := Lib.hid (show rnS n = [] by unfold rnS rn; rw [HK.out]; rfl)
    clear h
    go_enter Tryz.func222, Tryz.ntmps222
    go_wp2
    go_ret2
    exact ⟨by rw [HS.out, HK.out]; rfl, Kept.refl _⟩
  · have HK := Lib.hid (show okN n = true by unfold okN; simp; omega)
    have b0 : (n == 9) = false := by simp; omega
    have b1 : (n == 10) = false := by simp; omega
    have b2 : (n == 13) = false := by simp; omega
    have c0 : decide (32 ≤ n) = true := by simp; omega
    have c1 : decide (57344 ≤ n) = true := by simp; omega
    have c2 : decide (65536 ≤ n) = true := by simp; omega
    have c3 : decide (n ≤ 55295) = false := by simp; omega
    have c4 : decide (n ≤ 65533) = false := by simp; omega
    have c5 : decide (n ≤ 1114111) = true := by simp; omega
    have c6 : ¬ n < 128 := by omega
    have c7 : ¬ n < 2048 := by omega
    have c8 : ¬ n < 65536 := by omega
    have HS := Lib.hid (show rnS n = [by8 (240 + n / 262144), by8 (128 + n / 4096 % 64), by8 (128 + n / 64 % 64), by8 (128 + n % 64)] by unfold rnS rn; rw [HK.out, if_pos rfl]; unfold utf; rw [if_neg (by omega), if_neg (by omega), if_neg (by omega)]; rfl)
    have n0 := by8_nat (n := 240 + n / 262144) (by omega) (by omega)
    have n1 := by8_nat (n := 128 + n / 4096 % 64) (by omega) (by omega)
    have n2 := by8_nat (n := 128 + n / 64 % 64) (by omega) (by omega)
    have n3 := by8_nat (n := 128 + n % 64) (by omega) (by omega)
    have hcv := fun W => conv_lit W [by8 (240 + n / 262144), by8 (128 + n / 4096 % 64), by8 (128 + n / 64 % 64), by8 (128 + n % 64)]
    simp only [bc, List.map_cons, List.map_nil, List.length_cons, List.length_nil, Nat.zero_add, Nat.reduceAdd] at hcv
    simp only [n0, n1, n2, n3] at hcv
    have q262144 : n.tdiv 262144 = n / 262144 := Int.tdiv_eq_ediv_of_nonneg (by omega)
    have q4096 : n.tdiv 4096 = n / 4096 := Int.tdiv_eq_ediv_of_nonneg (by omega)
    have q64 : n.tdiv 64 = n / 64 := Int.tdiv_eq_ediv_of_nonneg (by omega)
    have r64 : n.tmod 64 = n % 64 := Int.tmod_eq_emod_of_nonneg (by omega)
    have rq64 : (n / 64).tmod 64 = n / 64 % 64 := Int.tmod_eq_emod_of_nonneg (by omega)
    have rq4096 : (n / 4096).tmod 64 = n / 4096 % 64 := Int.tmod_eq_emod_of_nonneg (by omega)
    have g1 : 65536 ≤ n := by omega
    have g2 : n ≤ 1114111 := by omega
    clear h n0 n1 n2 n3
    go_enter Tryz.func222, Tryz.ntmps222
    go_wp2
    go_ret2
    exact ⟨by rw [HS.out, HK.out]; rfl, (Kept.refl _).alloc _⟩
  · have HK := Lib.hid (show okN n = false by unfold okN; simp; omega)
    have b0 : (n == 9) = false := by simp; omega
    have b1 : (n == 10) = false := by simp; omega
    have b2 : (n == 13) = false := by simp; omega
    have c0 : decide (32 ≤ n) = true := by simp; omega
    have c1 : decide (57344 ≤ n) = true := by simp; omega
    have c2 : decide (65536 ≤ n) = true := by simp; omega
    have c3 : decide (n ≤ 55295) = false := by simp; omega
    have c4 : decide (n ≤ 65533) = false := by simp; omega
    have c5 : decide (n ≤ 1114111) = false := by simp; omega
    have HS := Lib.hid (show rnS n = [] by unfold rnS rn; rw [HK.out]; rfl)
    clear h
    go_enter Tryz.func222, Tryz.ntmps222
    go_wp2
    go_ret2
    exact ⟨by rw [HS.out, HK.out]; rfl, Kept.refl _⟩
theorem ext_mk (l : List UInt8) (a b : Nat) : (ByteArray.mk l.toArray).extract a b = ⟨((l.drop a).take (b - a)).toArray⟩ := by
  apply ByteArray.ext
  rw [ByteArray.data_extract]
  simp
theorem rn_nm {base : Int} {l : List UInt8} : rnS (nmV base l) = ((num base l).bind rn).getD [] ∧ okN (nmV base l) = ((num base l).bind rn).isSome := by
  unfold nmV rnS
  cases h : num base l with
  | none => exact ⟨rfl, rfl⟩
  | some m =>
    simp only [Option.bind_some]
    unfold cap
    by_cases q : 1114111 < m
    · rw [if_pos q]
      have e : okN m = false := by unfold okN; simp; omega
      unfold rn
      rw [e]
      exact ⟨rfl, rfl⟩
    · rw [if_neg q]
      refine ⟨rfl, ?_⟩
      unfold rn
      cases okN m <;> rfl
def sgS (b : List UInt8) : List UInt8 := (sg b).getD []
theorem sg_short {b : List UInt8} (h : b.length < 2) : sg b = none := by
  unfold sg
  rw [if_neg (fun e => by rw [e] at h; simp at h), if_neg (fun e => by rw [e] at h; simp at h), if_neg (fun e => by rw [e] at h; simp at h), if_neg (fun e => by rw [e] at h; simp at h), if_neg (fun e => by rw [e] at h; simp at h)]
  match b, h with
  | [], _ => rfl
  | [c], _ =>
    split
    · rename_i h1; simp at h1
    · rename_i h1
      simp only [List.cons.injEq] at h1
      obtain ⟨_, rfl⟩ := h1
      rfl
    · rfl
def sgN (b : List UInt8) : Option (List UInt8) :=
  match b with
  | 35 :: 120 :: r => (num 16 r).bind rn
  | 35 :: r => (num 10 r).bind rn
  | _ => none
theorem sg_else {b : List UInt8} (e1 : ¬ b = [97, 109, 112]) (e2 : ¬ b = [108, 116]) (e3 : ¬ b = [103, 116]) (e4 : ¬ b = [113, 117, 111, 116]) (e5 : ¬ b = [97, 112, 111, 115]) :
    sg b = sgN b := by
  unfold sg
  rw [if_neg e1, if_neg e2, if_neg e3, if_neg e4, if_neg e5]
  rfl
theorem sgN_neg {c0 c1 : UInt8} {r : List UInt8} (h : ¬ c0 = 35) : sgN (c0 :: c1 :: r) = none := by
  unfold sgN
  split
  · rename_i q; simp only [List.cons.injEq] at q; exact absurd q.1 h
  · rename_i q; simp only [List.cons.injEq] at q; exact absurd q.1 h
  · rfl
theorem sgN_ten {c1 : UInt8} {r : List UInt8} (h : ¬ c1 = 120) : sgN (35 :: c1 :: r) = (num 10 (c1 :: r)).bind rn := by
  unfold sgN
  split
  · rename_i q; simp only [List.cons.injEq] at q; exact absurd q.2.1 h
  · rename_i q; simp only [List.cons.injEq, true_and] at q; rw [q]
  · rename_i q; exact absurd rfl (q _)
set_option maxRecDepth 100000 in
set_option maxHeartbeats 4000000 in
theorem rsign_any (b : List UInt8) (w : World) (hl : b.length ≤ 1000) : Calls Tryz.prog 170 #[.string ⟨b.toArray⟩] w fun e w' => e = .returned (.tuple #[.string ⟨(sgS b).toArray⟩, .bool (sg b).isSome]) ∧ Kept w w' := by
  by_cases e1 : b = [97, 109, 112]
  · subst e1
    go_enter Tryz.func170, Tryz.ntmps170
    go_wp2
    go_ret2
    exact ⟨rfl, Kept.refl _⟩
  by_cases e2 : b = [108, 116]
  · subst e2
    go_enter Tryz.func170, Tryz.ntmps170
    go_wp2
    go_ret2
    exact ⟨rfl, Kept.refl _⟩
  by_cases e3 : b = [103, 116]
  · subst e3
    go_enter Tryz.func170, Tryz.ntmps170
    go_wp2
    go_ret2
    exact ⟨rfl, Kept.refl _⟩
  by_cases e4 : b = [113, 117, 111, 116]
  · subst e4
    go_enter Tryz.func170, Tryz.ntmps170
    go_wp2
    go_ret2
    exact ⟨rfl, Kept.refl _⟩
  by_cases e5 : b = [97, 112, 111, 115]
  · subst e5
    go_enter Tryz.func170, Tryz.ntmps170
    go_wp2
    go_ret2
    exact ⟨rfl, Kept.refl _⟩
  have HE := Lib.hid (sg_else e1 e2 e3 e4 e5)
  have b1 : (b == [97, 109, 112]) = false := beq_eq_false_iff_ne.2 e1
  have b2 : (b == [108, 116]) = false := beq_eq_false_iff_ne.2 e2
  have b3 : (b == [103, 116]) = false := beq_eq_false_iff_ne.2 e3
  have b4 : (b == [113, 117, 111, 116]) = false := beq_eq_false_iff_ne.2 e4
  have b5 : (b == [97, 112, 111, 115]) = false := beq_eq_false_iff_ne.2 e5
  clear e1 e2 e3 e4 e5
  by_cases h2 : b.length < 2
  · have HR := Lib.hid (show sg b = none from sg_short h2)
    have HS := Lib.hid (show sgS b = [] by unfold sgS; rw [HR.out]; rfl)
    have h2' : (b.length : Int) < 2 := by omega
    clear HE
    go_enter Tryz.func170, Tryz.ntmps170
    go_wp2
    go_ret2
    exact ⟨by rw [HS.out, HR.out]; rfl, Kept.refl _⟩
  obtain ⟨c0, h0⟩ : ∃ c, b[0]? = some c := ⟨_, List.getElem?_eq_getElem (by omega)⟩
  obtain ⟨c1, h1⟩ : ∃ c, b[1]? = some c := ⟨_, List.getElem?_eq_getElem (by omega)⟩
  have hat0 := byte_at b 0 c0 h0
  have hat1 := byte_at b 1 c1 h1
  have hb : b = c0 :: c1 :: b.drop 2 := by
    have q0 := drop_at h0; have q1 := drop_at h1
    rw [List.drop_zero] at q0
    rw [← q1, ← q0]
  have HB := Lib.hid hb
  have h2' : ¬ (b.length : Int) < 2 := by omega
  by_cases g0 : (c0.toNat : Int) = 35
  case neg =>
    have HR := Lib.hid (show sg b = none by
      rw [HE.out, HB.out]
      exact sgN_neg (fun e => g0 (by rw [e]; rfl)))
    have HS := Lib.hid (show sgS b = [] by unfold sgS; rw [HR.out]; rfl)
    have gb : ((c0.toNat : Int) != 35) = true := bne_iff_ne.2 g0
    clear HE hb h0 h1 hat1
    go_enter Tryz.func170, Tryz.ntmps170
    go_wp2
    go_ret2
    exact ⟨by rw [HS.out, HR.out]; rfl, Kept.refl _⟩
  have gb : ((c0.toNat : Int) != 35) = false := by simpa using g0
  have hc0 : c0 = 35 := u8_eq g0
  have X1 : (ByteArray.mk b.toArray).extract 1 b.length = ⟨(c1 :: b.drop 2).toArray⟩ := by
    rw [ext_mk, ← drop_at h1, List.take_of_length_le (by rw [List.length_drop]; omega)]
  have X2 : (ByteArray.mk b.toArray).extract 2 b.length = ⟨(b.drop 2).toArray⟩ := by
    rw [ext_mk, List.take_of_length_le (by rw [List.length_drop]; omega)]
  have N1 := Lib.hid (fun w => rnumber_any (c1 :: b.drop 2) 10 w (Or.inl rfl) (by simp; omega))
  have N2 := Lib.hid (fun w => rnumber_any (b.drop 2) 16 w (Or.inr rfl) (by simp; omega))
  rw [← X1] at N1
  rw [← X2] at N2
  clear X1 X2 hb h0 h1
  by_cases g1 : (c1.toNat : Int) = 120
  · have hc1 : c1 = 120 := u8_eq g1
    have HR := Lib.hid (show sg b = (num 16 (b.drop 2)).bind rn by
      rw [HE.out]
      conv => lhs; rw [HB.out, hc0, hc1]
      rfl)
    have gb1 : ((c1.toNat : Int) == 120) = true := beq_iff_eq.2 g1
    obtain ⟨r1, r2⟩ := rn_nm (base := 16) (l := b.drop 2)
    have HS := Lib.hid (show rnS (nmV 16 (b.drop 2)) = sgS b by unfold sgS; rw [HR.out]; exact r1)
    have HO := Lib.hid (show okN (nmV 16 (b.drop 2)) = (sg b).isSome by rw [HR.out]; exact r2)
    clear HE HR g0 g1 hc0 hc1 r1 r2
    go_enter Tryz.func170, Tryz.ntmps170
    go_wp2_with fail
    refine (N1.out _).mono ?_
    rintro e x2 ⟨rfl, rfl⟩
    clear N1
    go_wp2_with fail
    refine (N2.out _).mono ?_
    rintro e x2 ⟨rfl, rfl⟩
    clear N2
    generalize nmV 16 (b.drop 2) = nv at *
    go_wp2_with fail
    refine (rrune_any nv _).mono ?_
    rintro e x2 ⟨rfl, k2⟩
    rw [HS.out, HO.out]
    go_wp2
    go_ret2
    exact ⟨rfl, k2⟩
  · have hc1 : ¬ c1 = 120 := fun e => g1 (by rw [e]; rfl)
    have HR := Lib.hid (show sg b = (num 10 (c1 :: b.drop 2)).bind rn by
      rw [HE.out]
      conv => lhs; rw [HB.out, hc0]
      exact sgN_ten hc1)
    have gb1 : ((c1.toNat : Int) == 120) = false := beq_eq_false_iff_ne.2 g1
    obtain ⟨r1, r2⟩ := rn_nm (base := 10) (l := c1 :: b.drop 2)
    have HS := Lib.hid (show rnS (nmV 10 (c1 :: b.drop 2)) = sgS b by unfold sgS; rw [HR.out]; exact r1)
    have HO := Lib.hid (show okN (nmV 10 (c1 :: b.drop 2)) = (sg b).isSome by rw [HR.out]; exact r2)
    clear HE HR g0 g1 hc0 hc1 r1 r2 N2
    go_enter Tryz.func170, Tryz.ntmps170
    go_wp2_with fail
    refine (N1.out _).mono ?_
    rintro e x2 ⟨rfl, rfl⟩
    clear N1
    generalize nmV 10 (c1 :: b.drop 2) = nv at *
    go_wp2_with fail
    refine (rrune_any nv _).mono ?_
    rintro e x2 ⟨rfl, k2⟩
    rw [HS.out, HO.out]
    go_wp2
    go_ret2
    exact ⟨rfl, k2⟩
def bdO (l : List UInt8) (at0 : Nat) : Option (List UInt8) := bdF 11 [] (l.drop (at0 + 1))
theorem bdF_nil (n : Nat) (acc : List UInt8) : bdF n acc [] = none := by cases n <;> rfl
theorem sb_ret {a a' : List UInt8} {b b' : Bool} (ha : a = a') (hb : b = b') : Ending.returned (.tuple #[.string ⟨a.toArray⟩, .bool b]) = .returned (.tuple #[.string ⟨a'.toArray⟩, .bool b']) := by rw [ha, hb]
theorem slice_txt (l : List UInt8) (a b : Nat) (x y : Int) (hx : x = a) (hy : y = b) (h1 : a ≤ b) (h2 : b ≤ l.length) (W : World) :
    (Instr.slice 9 (.string ⟨l.toArray⟩) (some (.int .i64 x)) (some (.int .i64 y)) none).run Tryz.prog W = .ok (.string ⟨((l.drop a).take (b - a)).toArray⟩) W := by
  subst hx hy
  rw [run_slice_string W 9 _ .i64 .i64 _ _ Tryz.underlying9 (by omega) (by omega) (by show (b : Int) ≤ l.length; omega)]
  rw [show (a : Int).toNat = a by omega, show (b : Int).toNat = b by omega, ext_mk]
set_option maxRecDepth 100000 in
set_option maxHeartbeats 2000000 in
theorem rbody_any (l : List UInt8) (at0 : Nat) (w : World) (hl : l.length ≤ 1000000) (hat0 : at0 < l.length) : Calls Tryz.prog 169 #[.string ⟨l.toArray⟩, .int .i64 at0] w fun e w' => e = .returned (.tuple #[.string ⟨((bdO l at0).getD []).toArray⟩, .bool (bdO l at0).isSome]) ∧ w = w' := by
  go_enter Tryz.func169, Tryz.ntmps169
  go_wp2_with fail
  go_loopw [6] (fun i y => y = w ∧ ∃ j : Nat, j ≤ 11 ∧ at0 + 1 + j ≤ l.length ∧ i = .int .i64 ((at0 : Int) + 1 + j) ∧ bdO l at0 = bdF (11 - j) ((l.drop (at0 + 1)).take j) (l.drop (at0 + 1 + j))) (fun i _ => l.length - (intOf i).toNat)
  case atStart => exact ⟨rfl, 0, Nat.zero_le _, hat0, by go_num, rfl⟩
  case round =>
    obtain ⟨rfl, j, hj, hlen, rfl, ht⟩ := hrel
    have HT := Lib.hid ht
    clear ht
    by_cases hlt : at0 + 1 + j < l.length
    · have c1 : (at0 : Int) + 1 + j < l.length := by omega
      by_cases h11 : j = 11
      · have HR := Lib.hid (show bdO l at0 = none by rw [HT.out, h11]; rfl)
        have c2 : ¬ (at0 : Int) + 1 + j ≤ at0 + 11 := by omega
        go_wp2
        go_ret2
        exact ⟨by rw [HR.out]; rfl, rfl⟩
      · have c2 : (at0 : Int) + 1 + j ≤ at0 + 11 := by omega
        obtain ⟨a, ha⟩ : ∃ a, l[at0 + 1 + j]? = some a := ⟨_, List.getElem?_eq_getElem hlt⟩
        have HD := Lib.hid (drop_at ha)
        have hat := byte_at l (at0 + 1 + j) a ha
        have HN := Lib.hid (show bdO l at0 = if a = 38 then none else if a = 59 then (if (l.drop (at0 + 1)).take j = [] then none else some ((l.drop (at0 + 1)).take j)) else bdF (11 - (j + 1)) ((l.drop (at0 + 1)).take (j + 1)) (l.drop (at0 + 1 + (j + 1))) by
          rw [HT.out, HD.out, show 11 - j = (11 - (j + 1)) + 1 by omega, bdF]
          have e : (l.drop (at0 + 1)).take (j + 1) = (l.drop (at0 + 1)).take j ++ [a] := by rw [List.take_add_one, List.getElem?_drop, ha]; rfl
          rw [e]; rfl)
        clear ha HT HD
        by_cases g38 : (a.toNat : Int) = 38
        · have HR := Lib.hid (show bdO l at0 = none by rw [HN.out, if_pos (u8_eq g38)])
          have gb : ((a.toNat : Int) == 38) = true := beq_iff_eq.2 g38
          clear g38
          go_wp2
          go_ret2
          exact ⟨by rw [HR.out]; rfl, rfl⟩
        have gb38 : ((a.toNat : Int) == 38) = false := beq_eq_false_iff_ne.2 g38
        have n38 : ¬ a = 38 := u8_ne g38
        by_cases g59 : (a.toNat : Int) = 59
        · have gb : ((a.toNat : Int) == 59) = true := beq_iff_eq.2 g59
          have hsl := slice_txt l (at0 + 1) (at0 + 1 + j) ((at0 : Int) + 1) ((at0 : Int) + 1 + j) (by go_num) (by go_num) (by omega) (by omega) wr
          rw [show at0 + 1 + j - (at0 + 1) = j by omega] at hsl
          by_cases h0 : j = 0
          · have HR := Lib.hid (show bdO l at0 = none by rw [HN.out, if_neg n38, if_pos (u8_eq g59), h0, if_pos (by simp)])
            have HX := Lib.hid (show (l.drop (at0 + 1)).take j = [] by rw [h0]; rfl)
            have c3 : ¬ (at0 : Int) + 1 < at0 + 1 + j := by omega
            clear g59 g38 n38 HN h0 h11
            go_wp2
            go_ret2
            exact ⟨sb_ret (by rw [HR.out, HX.out]; rfl) (by rw [HR.out]; exact decide_eq_false (by omega)), rfl⟩
          · have HR := Lib.hid (show bdO l at0 = some ((l.drop (at0 + 1)).take j) by
              rw [HN.out, if_neg n38, if_pos (u8_eq g59), if_neg (fun e => by have := congrArg List.length e; rw [List.length_take, List.length_drop] at this; simp at this; omega)])
            have c3 : (at0 : Int) + 1 < at0 + 1 + j := by omega
            clear g59 g38 n38 HN h0 h11
            go_wp2
            go_ret2
            exact ⟨sb_ret (by rw [HR.out]; rfl) (by rw [HR.out]; rfl), rfl⟩
        · have HS := Lib.hid (show bdO l at0 = bdF (11 - (j + 1)) ((l.drop (at0 + 1)).take (j + 1)) (l.drop (at0 + 1 + (j + 1))) by rw [HN.out, if_neg n38, if_neg (u8_ne g59)])
          have gb59 : ((a.toNat : Int) == 59) = false := beq_eq_false_iff_ne.2 g59
          clear g59 g38 n38 HN
          go_wp2
          go_roundw
          case rel => exact ⟨trivial, j + 1, by omega, by omega, by go_num, HS.out⟩
          case measure => simp [intOf]; omega
    · have HR := Lib.hid (show bdO l at0 = none by rw [HT.out, show l.drop (at0 + 1 + j) = [] from List.drop_eq_nil_of_le (by omega), bdF_nil])
      have c1 : ¬ (at0 : Int) + 1 + j < l.length := by omega
      go_wp2
      go_ret2
      exact ⟨by rw [HR.out]; rfl, rfl⟩
theorem en_bd (l : List UInt8) (k : Nat) : en (l.drop (k + 1)) = (bdO l k).bind fun b => (sg b).map fun x => (x, b.length + 1) := rfl
theorem bdO_le {l b : List UInt8} {k : Nat} (hk : k < l.length) (h : bdO l k = some b) : k + b.length + 2 ≤ l.length := by
  have := (bdF_len _ _ _ _ h).1
  rw [List.length_drop] at this
  simp at this; omega
theorem gone_amp {l b x : List UInt8} {k : Nat} (h : l[k]? = some 38) (hb : bdO l k = some b) (hs : sg b = some x) :
    gone (l.drop k) = (x ++ (gone (l.drop (k + b.length + 2))).1, (gone (l.drop (k + b.length + 2))).2) := by
  rw [drop_at h, gone_cons, if_pos rfl, en_bd, hb]
  simp only [Option.bind_some, hs, Option.map_some]
  rw [List.drop_drop, show k + 1 + (b.length + 1) = k + b.length + 2 by omega]
theorem gone_bad {l : List UInt8} {k : Nat} (h : l[k]? = some 38) (hb : en (l.drop (k + 1)) = none) :
    gone (l.drop k) = (38 :: (gone (l.drop (k + 1))).1, false) := by
  rw [drop_at h, gone_cons, if_pos rfl, hb]
theorem gone_other {l : List UInt8} {a : UInt8} {k : Nat} (h : l[k]? = some a) (ha : ¬ a = 38) :
    gone (l.drop k) = (a :: (gone (l.drop (k + 1))).1, (gone (l.drop (k + 1))).2) := by
  rw [drop_at h, gone_cons, if_neg ha]
theorem en_none {l : List UInt8} {k : Nat} (h : (sg ((bdO l k).getD [])).isSome = false ∨ bdO l k = none) : en (l.drop (k + 1)) = none := by
  rw [en_bd]
  cases hb : bdO l k with
  | none => rfl
  | some b =>
    rw [hb] at h
    simp only [Option.getD_some, Option.isSome_eq_false_iff, Option.isNone_iff_eq_none] at h
    rcases h with h | h
    · simp [h]
    · cases h
def GoneAt (l done : List UInt8) (k : Nat) (f : Bool) : Prop := gone l = (done ++ (gone (l.drop k)).1, f && (gone (l.drop k)).2) ∧ done.length ≤ k ∧ k ≤ l.length
theorem GoneAt.init (l : List UInt8) : GoneAt l [] 0 true := ⟨by simp, by simp, Nat.zero_le _⟩
theorem GoneAt.fin {l done : List UInt8} {f : Bool} (h : GoneAt l done l.length f) : gone l = (done, f) := by
  rw [h.1, List.drop_eq_nil_of_le (Nat.le_refl _)]; simp [gone_nil]
theorem GoneAt.amp {l done b x : List UInt8} {k : Nat} {f : Bool} (h : GoneAt l done k f) (ha : l[k]? = some 38) (hb : bdO l k = some b) (hs : sg b = some x) : GoneAt l (done ++ x) (k + b.length + 2) f := by
  have hlt := (List.getElem?_eq_some_iff.1 ha).1
  have h3 := sg_len hs
  refine ⟨?_, by rw [List.length_append]; have := h.2.1; omega, bdO_le hlt hb⟩
  rw [h.1, gone_amp ha hb hs]; simp
theorem GoneAt.bad {l done : List UInt8} {k : Nat} {f : Bool} (h : GoneAt l done k f) (ha : l[k]? = some 38) (hb : en (l.drop (k + 1)) = none) : GoneAt l (done ++ [38]) (k + 1) false := by
  have hlt := (List.getElem?_eq_some_iff.1 ha).1
  refine ⟨?_, by rw [List.length_append]; have := h.2.1; simp; omega, hlt⟩
  rw [h.1, gone_bad ha hb]; simp
theorem GoneAt.other {l done : List UInt8} {a : UInt8} {k : Nat} {f : Bool} (h : GoneAt l done k f) (ha : l[k]? = some a) (hn : ¬ a = 38) : GoneAt l (done ++ [a]) (k + 1) f := by
  have hlt := (List.getElem?_eq_some_iff.1 ha).1
  refine ⟨?_, by rw [List.length_append]; have := h.2.1; simp; omega, hlt⟩
  rw [h.1, gone_other ha hn]; simp
set_option maxRecDepth 100000 in
set_option maxHeartbeats 4000000 in
theorem rgone_any (l : List UInt8) (w : World) (hl : l.length ≤ 1000000) : Calls Tryz.prog 120 #[.string ⟨l.toArray⟩] w fun e w' => e = .returned (.tuple #[.string ⟨(gone l).1.toArray⟩, .bool (gone l).2]) ∧ Kept w w' := by
  obtain ⟨i0, hi, hz0, hz1, hz2⟩ := info_parts info8
  go_enter Tryz.func120, Tryz.ntmps120
  go_wp2_with fail
  go_loopw [4, 5, 6] (fun a f i y => ∃ (k : Nat) (done : List UInt8) (fb : Bool), k ≤ l.length ∧ i = .int .i64 k ∧ f = .bool fb ∧ done.length ≤ 1000000 ∧ GoneAt l done k fb ∧ OutBIn w.heap.size w done a y) (fun _ _ i _ => l.length - (intOf i).toNat)
  case atStart => exact ⟨0, [], true, Nat.zero_le _, rfl, rfl, by simp, GoneAt.init l, none, 0, rfl, OutB.nil _ _, Kept.refl _⟩
  case round =>
    obtain ⟨k, done, fb, hk, rfl, rfl, hd, ht, ao, cap, rfl, ho, hkp⟩ := hrel
    have HO := Lib.hid ho; have HK := Lib.hid hkp; have HT := Lib.hid ht
    clear ho hkp ht
    by_cases hlt : k < l.length
    · obtain ⟨a, ha⟩ : ∃ a, l[k]? = some a := ⟨_, List.getElem?_eq_getElem hlt⟩
      have HA := Lib.hid ha
      have hat := byte_at l k a ha
      clear ha
      by_cases g38 : (a.toNat : Int) = 38
      · have hc : a = 38 := u8_eq g38
        have gb : ((a.toNat : Int) == 38) = true := beq_iff_eq.2 g38
        have HAM := Lib.hid (show l[k]? = some 38 by rw [← hc]; exact HA.out)
        have HC := Lib.hid hc
        clear g38 hc
        have hbl : ((bdO l k).getD []).length ≤ 1000 := by
          cases hq : bdO l k with
          | none => simp
          | some b => have := (bo_len hq).1; simp only [Option.getD_some]; omega
        go_wp2_with fail
        refine (rbody_any l k _ (by omega) hlt).mono ?_
        rintro e x2 ⟨rfl, rfl⟩
        generalize hbe : (bdO l k).getD [] = bb at *
        generalize hbi : (bdO l k).isSome = bi at *
        have HBE := Lib.hid hbe; have HBI := Lib.hid hbi
        clear hbe hbi
        go_wp2_with fail
        refine (rsign_any bb _ hbl).mono ?_
        rintro e x2 ⟨rfl, k2⟩
        have HK2 := Lib.hid (HK.out.trans k2); have HO2 := Lib.hid (HO.out.kept k2)
        clear k2
        generalize hse : sgS bb = ss at *
        generalize hsi : (sg bb).isSome = si at *
        have HSE := Lib.hid hse; have HSI := Lib.hid hsi
        clear hse hsi HO HK
        cases bi with
        | false =>
          have HEN := Lib.hid (show en (l.drop (k + 1)) = none from en_none (Or.inr (by cases hb : bdO l k with | none => rfl | some b => have := HBI.out; rw [hb] at this; cases this)))
          have HG := Lib.hid (show GoneAt l (done ++ [a]) (k + 1) false by rw [HC.out]; exact HT.out.bad HAM.out HEN.out)
          go_wp2_with (at_builtin; refine wpList_append_own _ rfl _ _ 25 rfl w.heap.size 5 i0 (.int .u8 0) 1 1 Tryz.underlying25 hi hz0 hz1 hz2 rfl (by decide) _ _ _ rfl (World.ownsRow.alloc HO2.out _) ⟨x2.heap.size, 0, none⟩ 1 1 [.int .u8 (a.toNat : Int)] rfl rfl (cell_one_new _ _ _) (fun x hx => by simp at hx; subst hx; rfl) (by unfold maxLen; omega) (by omega) (by have := HK2.out.size; simp; omega) ?_; intro v' w7 hown' hgrow hnil)
          have HA3 := outB_one (Nat.le_refl _) HO2.out HK2.out hgrow hown'
          go_roundw
          case rel => exact ⟨k + 1, _, false, hlt, by go_num, rfl, by have := HG.out.2.1; omega, HG.out, HA3⟩
          case measure => simp [intOf]; omega
        | true =>
          obtain ⟨b, hb⟩ : ∃ b, bdO l k = some b := by
            cases hb : bdO l k with
            | none => have := HBI.out; rw [hb] at this; cases this
            | some b => exact ⟨b, rfl⟩
          have hbb : bb = b := by rw [← HBE.out, hb]; rfl
          subst hbb
          cases si with
          | false =>
            have HEN := Lib.hid (show en (l.drop (k + 1)) = none from en_none (Or.inl (by rw [hb]; exact HSI.out)))
            clear hb
            have HG := Lib.hid (show GoneAt l (done ++ [a]) (k + 1) false by rw [HC.out]; exact HT.out.bad HAM.out HEN.out)
            go_wp2_with (at_builtin; refine wpList_append_own _ rfl _ _ 25 rfl w.heap.size 5 i0 (.int .u8 0) 1 1 Tryz.underlying25 hi hz0 hz1 hz2 rfl (by decide) _ _ _ rfl (World.ownsRow.alloc HO2.out _) ⟨x2.heap.size, 0, none⟩ 1 1 [.int .u8 (a.toNat : Int)] rfl rfl (cell_one_new _ _ _) (fun x hx => by simp at hx; subst hx; rfl) (by unfold maxLen; omega) (by omega) (by have := HK2.out.size; simp; omega) ?_; intro v' w7 hown' hgrow hnil)
            have HA3 := outB_one (Nat.le_refl _) HO2.out HK2.out hgrow hown'
            go_roundw
            case rel => exact ⟨k + 1, _, false, hlt, by go_num, rfl, by have := HG.out.2.1; omega, HG.out, HA3⟩
            case measure => simp [intOf]; omega
          | true =>
            have hs : sg bb = some ss := by
              have h1 := HSI.out; have h2 := HSE.out
              unfold sgS at h2
              cases hq : sg bb with
              | none => rw [hq] at h1; cases h1
              | some y => rw [hq] at h2; rw [← h2]; rfl
            have HG := Lib.hid (HT.out.amp HAM.out hb hs)
            have hle := bdO_le hlt hb
            have hsl := sg_len hs
            clear hb hs
            go_wp2_with (at_builtin; refine Lib.wpList_append_own_string _ rfl _ _ 25 9 rfl w.heap.size 5 i0 Tryz.underlying25 Tryz.underlying9 hi hz0 hz1 hz2 _ _ _ rfl HO2.out ⟨ss.toArray⟩ rfl (by unfold maxLen; simp [ByteArray.size]; omega) (by simp [ByteArray.size]; omega) HK2.out.size ?_; intro v' w7 hown' hgrow hnil)
            have HA3 := outB_str (Nat.le_refl _) HO2.out HK2.out hgrow hown'
            go_roundw
            case rel => exact ⟨k + bb.length + 2, _, fb, hle, by go_num, rfl, by have := HG.out.2.1; omega, HG.out, HA3⟩
            case measure => simp [intOf]; omega
      · have gb : ((a.toNat : Int) == 38) = false := beq_eq_false_iff_ne.2 g38
        have HG := Lib.hid (HT.out.other HA.out (u8_ne g38))
        have HO2 := HO; have HK2 := HK
        clear g38 HO HK
        go_wp2_with (at_builtin; refine wpList_append_own _ rfl _ _ 25 rfl w.heap.size 5 i0 (.int .u8 0) 1 1 Tryz.underlying25 hi hz0 hz1 hz2 rfl (by decide) _ _ _ rfl (World.ownsRow.alloc HO2.out _) ⟨wr.heap.size, 0, none⟩ 1 1 [.int .u8 (a.toNat : Int)] rfl rfl (cell_one_new _ _ _) (fun x hx => by simp at hx; subst hx; rfl) (by unfold maxLen; omega) (by omega) (by have := HK2.out.size; simp; omega) ?_; intro v' w7 hown' hgrow hnil)
        have HA3 := outB_one (Nat.le_refl _) HO2.out HK2.out hgrow hown'
        go_roundw
        case rel => exact ⟨k + 1, _, fb, hlt, by go_num, rfl, by have := HG.out.2.1; omega, HG.out, HA3⟩
        case measure => simp [intOf]; omega
    · obtain rfl : k = l.length := by omega
      have HE := Lib.hid HT.out.fin
      have hcv := conv_out HO.out
      go_wp2
      go_ret2
      exact ⟨by rw [HE.out]; rfl, HK.out⟩
theorem rloose_any (l : List UInt8) (w : World) (hl : l.length ≤ 1000000) : Calls Tryz.prog 79 #[.string ⟨l.toArray⟩] w fun e w' => e = .returned (.string ⟨(gone l).1.toArray⟩) ∧ Kept w w' := by
  go_enter Tryz.func79, Tryz.ntmps79
  go_wp2_with fail
  refine (rgone_any l _ hl).mono ?_
  rintro e x2 ⟨rfl, k2⟩
  go_wp2
  go_ret
  exact ⟨rfl, k2⟩
end Go.Proofs.YtjlpkgipdkjfhaaGreatDoor
