/- Package ent's small functions: signs by their numbers, blanks, and what stands for a sign in an encoded text; a text's pieces; the body of an entity. -/
import Derived.Test.YtpkbcomdkamglaaDoorEnC
import Derived.Test.YtpkbcomdkamglaaDoorEnRn
import Derived.Test.YtpkbcomdkamglaaDoorCut
import Derived.Lib.OthersKept
set_option linter.unusedSimpArgs false
set_option linter.unusedVariables false
namespace Go.Proofs.YtpkbcomdkamglaaDoor
open Go.ChangeShapes Go.WideShapes Go.ChangeAt Go.RowKit
open En
theorem kept_it {w x : World} (h : Below w.heap.size w x) (s : ByteArray) (p : Nat) : Below w.heap.size w (x.iterAt w.heap.size s p) := Lib.below_iterAt h (Nat.le_refl _) s p
theorem byR {r : Nat} : ((r : Int) = 38 ↔ r = 38) ∧ ((r : Int) = 59 ↔ r = 59) := by omega
theorem utf_enc {n : Int} (h : okN n = true) : Utf8.encode n = ⟨(utf n).toArray⟩ := by
  unfold okN at h
  simp only [decide_eq_true_eq] at h
  have hv : Utf8.valid n = true := by unfold Utf8.valid; simp; omega
  unfold Utf8.encode utf by8
  simp only [hv, if_true]
  obtain ⟨m, rfl⟩ : ∃ m : Nat, n = m := ⟨n.toNat, by omega⟩
  simp only [Int.toNat_natCast]
  by_cases h1 : m < 128
  · rw [if_pos h1, if_pos (show (m : Int) < 128 by omega)]
  rw [if_neg h1, if_neg (show ¬ (m : Int) < 128 by omega)]
  by_cases h2 : m < 2048
  · rw [if_pos h2, if_pos (show (m : Int) < 2048 by omega)]
    congr
  rw [if_neg h2, if_neg (show ¬ (m : Int) < 2048 by omega)]
  by_cases h3 : m < 65536
  · rw [if_pos h3, if_pos (show (m : Int) < 65536 by omega)]
    congr
  · rw [if_neg h3, if_neg (show ¬ (m : Int) < 65536 by omega)]
    congr
set_option maxRecDepth 100000 in
set_option maxHeartbeats 2000000 in
theorem isSign_any (n : Int) (w : World) : Calls Tryd.prog 69 #[.int .i64 n] w fun e w' => e = .returned (.bool (okN n)) ∧ w = w' := by
  rcases (show n < 9 ∨ n = 9 ∨ n = 10 ∨ (11 ≤ n ∧ n ≤ 12) ∨ n = 13 ∨ (14 ≤ n ∧ n ≤ 31) ∨ (32 ≤ n ∧ n ≤ 55295) ∨ (55296 ≤ n ∧ n ≤ 57343) ∨ (57344 ≤ n ∧ n ≤ 65533) ∨ (65534 ≤ n ∧ n ≤ 65535) ∨ (65536 ≤ n ∧ n ≤ 1114111) ∨ 1114112 ≤ n by omega) with h | h | h | h | h | h | h | h | h | h | h | h
  · have HK := Lib.hid (show okN n = false by unfold okN; simp; omega)
    have b0 : (n == 9) = false := by simp; omega
    have b1 : (n == 10) = false := by simp; omega
    have b2 : (n == 13) = false := by simp; omega
    have c0 : decide (32 ≤ n) = false := by simp; omega
    have c1 : decide (57344 ≤ n) = false := by simp; omega
    have c2 : decide (65536 ≤ n) = false := by simp; omega
    have c3 : decide (n ≤ 55295) = true := by simp; omega
    have c4 : decide (n ≤ 65533) = true := by simp; omega
    have c5 : decide (n ≤ 1114111) = true := by simp; omega
    clear h
    go_enter Tryd.func69, Tryd.ntmps69
    go_wp2
    go_ret
    exact ⟨by rw [HK.out]; rfl, rfl⟩
  · subst h
    go_enter Tryd.func69, Tryd.ntmps69
    go_wp2
    go_ret
    exact ⟨rfl, rfl⟩
  · subst h
    go_enter Tryd.func69, Tryd.ntmps69
    go_wp2
    go_ret
    exact ⟨rfl, rfl⟩
  · have HK := Lib.hid (show okN n = false by unfold okN; simp; omega)
    have b0 : (n == 9) = false := by simp; omega
    have b1 : (n == 10) = false := by simp; omega
    have b2 : (n == 13) = false := by simp; omega
    have c0 : decide (32 ≤ n) = false := by simp; omega
    have c1 : decide (57344 ≤ n) = false := by simp; omega
    have c2 : decide (65536 ≤ n) = false := by simp; omega
    have c3 : decide (n ≤ 55295) = true := by simp; omega
    have c4 : decide (n ≤ 65533) = true := by simp; omega
    have c5 : decide (n ≤ 1114111) = true := by simp; omega
    clear h
    go_enter Tryd.func69, Tryd.ntmps69
    go_wp2
    go_ret
    exact ⟨by rw [HK.out]; rfl, rfl⟩
  · subst h
    go_enter Tryd.func69, Tryd.ntmps69
    go_wp2
    go_ret
    exact ⟨rfl, rfl⟩
  · have HK := Lib.hid (show okN n = false by unfold okN; simp; omega)
    have b0 : (n == 9) = false := by simp; omega
    have b1 : (n == 10) = false := by simp; omega
    have b2 : (n == 13) = false := by simp; omega
    have c0 : decide (32 ≤ n) = false := by simp; omega
    have c1 : decide (57344 ≤ n) = false := by simp; omega
    have c2 : decide (65536 ≤ n) = false := by simp; omega
    have c3 : decide (n ≤ 55295) = true := by simp; omega
    have c4 : decide (n ≤ 65533) = true := by simp; omega
    have c5 : decide (n ≤ 1114111) = true := by simp; omega
    clear h
    go_enter Tryd.func69, Tryd.ntmps69
    go_wp2
    go_ret
    exact ⟨by rw [HK.out]; rfl, rfl⟩
  · have HK := Lib.hid (show okN n = true by unfold okN; simp; omega)
    have b0 : (n == 9) = false := by simp; omega
    have b1 : (n == 10) = false := by simp; omega
    have b2 : (n == 13) = false := by simp; omega
    have c0 : decide (32 ≤ n) = true := by simp; omega
    have c1 : decide (57344 ≤ n) = false := by simp; omega
    have c2 : decide (65536 ≤ n) = false := by simp; omega
    have c3 : decide (n ≤ 55295) = true := by simp; omega
    have c4 : decide (n ≤ 65533) = true := by simp; omega
    have c5 : decide (n ≤ 1114111) = true := by simp; omega
    clear h
    go_enter Tryd.func69, Tryd.ntmps69
    go_wp2
    go_ret
    exact ⟨by rw [HK.out]; rfl, rfl⟩
  · have HK := Lib.hid (show okN n = false by unfold okN; simp; omega)
    have b0 : (n == 9) = false := by simp; omega
    have b1 : (n == 10) = false := by simp; omega
    have b2 : (n == 13) = false := by simp; omega
    have c0 : decide (32 ≤ n) = true := by simp; omega
    have c1 : decide (57344 ≤ n) = false := by simp; omega
    have c2 : decide (65536 ≤ n) = false := by simp; omega
    have c3 : decide (n ≤ 55295) = false := by simp; omega
    have c4 : decide (n ≤ 65533) = true := by simp; omega
    have c5 : decide (n ≤ 1114111) = true := by simp; omega
    clear h
    go_enter Tryd.func69, Tryd.ntmps69
    go_wp2
    go_ret
    exact ⟨by rw [HK.out]; rfl, rfl⟩
  · have HK := Lib.hid (show okN n = true by unfold okN; simp; omega)
    have b0 : (n == 9) = false := by simp; omega
    have b1 : (n == 10) = false := by simp; omega
    have b2 : (n == 13) = false := by simp; omega
    have c0 : decide (32 ≤ n) = true := by simp; omega
    have c1 : decide (57344 ≤ n) = true := by simp; omega
    have c2 : decide (65536 ≤ n) = false := by simp; omega
    have c3 : decide (n ≤ 55295) = false := by simp; omega
    have c4 : decide (n ≤ 65533) = true := by simp; omega
    have c5 : decide (n ≤ 1114111) = true := by simp; omega
    clear h
    go_enter Tryd.func69, Tryd.ntmps69
    go_wp2
    go_ret
    exact ⟨by rw [HK.out]; rfl, rfl⟩
  · have HK := Lib.hid (show okN n = false by unfold okN; simp; omega)
    have b0 : (n == 9) = false := by simp; omega
    have b1 : (n == 10) = false := by simp; omega
    have b2 : (n == 13) = false := by simp; omega
    have c0 : decide (32 ≤ n) = true := by simp; omega
    have c1 : decide (57344 ≤ n) = true := by simp; omega
    have c2 : decide (65536 ≤ n) = false := by simp; omega
    have c3 : decide (n ≤ 55295) = false := by simp; omega
    have c4 : decide (n ≤ 65533) = false := by simp; omega
    have c5 : decide (n ≤ 1114111) = true := by simp; omega
    clear h
    go_enter Tryd.func69, Tryd.ntmps69
    go_wp2
    go_ret
    exact ⟨by rw [HK.out]; rfl, rfl⟩
  · have HK := Lib.hid (show okN n = true by unfold okN; simp; omega)
    have b0 : (n == 9) = false := by simp; omega
    have b1 : (n == 10) = false := by simp; omega
    have b2 : (n == 13) = false := by simp; omega
    have c0 : decide (32 ≤ n) = true := by simp; omega
    have c1 : decide (57344 ≤ n) = true := by simp; omega
    have c2 : decide (65536 ≤ n) = true := by simp; omega
    have c3 : decide (n ≤ 55295) = false := by simp; omega
    have c4 : decide (n ≤ 65533) = false := by simp; omega
    have c5 : decide (n ≤ 1114111) = true := by simp; omega
    clear h
    go_enter Tryd.func69, Tryd.ntmps69
    go_wp2
    go_ret
    exact ⟨by rw [HK.out]; rfl, rfl⟩
  · have HK := Lib.hid (show okN n = false by unfold okN; simp; omega)
    have b0 : (n == 9) = false := by simp; omega
    have b1 : (n == 10) = false := by simp; omega
    have b2 : (n == 13) = false := by simp; omega
    have c0 : decide (32 ≤ n) = true := by simp; omega
    have c1 : decide (57344 ≤ n) = true := by simp; omega
    have c2 : decide (65536 ≤ n) = true := by simp; omega
    have c3 : decide (n ≤ 55295) = false := by simp; omega
    have c4 : decide (n ≤ 65533) = false := by simp; omega
    have c5 : decide (n ≤ 1114111) = false := by simp; omega
    clear h
    go_enter Tryd.func69, Tryd.ntmps69
    go_wp2
    go_ret
    exact ⟨by rw [HK.out]; rfl, rfl⟩
set_option maxRecDepth 100000 in
theorem rune_any (n : Int) (w : World) (h0 : -9223372036854775808 ≤ n) (h1 : n ≤ 9223372036854775807) : Calls Tryd.prog 59 #[.int .i64 n] w fun e w' => e = .returned (.tuple #[.string ⟨(rnS n).toArray⟩, .bool (okN n)]) ∧ w = w' := by
  cases hk : okN n with
  | false =>
    have HS := Lib.hid (show rnS n = [] by unfold rnS rn; rw [hk]; rfl)
    have HK := Lib.hid hk
    clear hk
    go_enter Tryd.func59, Tryd.ntmps59
    go_wp2_with fail
    refine (isSign_any n _).mono ?_
    rintro e w1 ⟨rfl, rfl⟩
    rw [HK.out]
    go_wp2
    go_ret2
    exact ⟨by rw [HS.out]; rfl, rfl⟩
  | true =>
    have hn : 0 ≤ n ∧ n ≤ 1114111 := by unfold okN at hk; simp only [decide_eq_true_eq] at hk; omega
    have HS := Lib.hid (show rnS n = utf n by unfold rnS rn; rw [hk]; rfl)
    have hcv : ∀ W : World, (convert 3 21 (.int .i64 n)).run Tryd.prog W = .ok (.int .i32 n) W := fun W => by
      rw [run_convert_int W _ _ .i64 n (by rw [Tryd.underlying3]; rfl) Tryd.underlying21, show Tryd.prog.intKind 21 = .i32 by kernel_rfl, IntKind.wrap_i32, show (n + 2147483648) % 4294967296 - 2147483648 = n by omega]
    have hcs : ∀ W : World, (convert 21 9 (.int .i32 n)).run Tryd.prog W = .ok (.string ⟨(utf n).toArray⟩) W := fun W => by
      rw [run_convert_int_string W _ _ .i32 n (by rw [Tryd.underlying21]; rfl) Tryd.underlying9, utf_enc hk]
    have HK := Lib.hid hk
    clear hk
    go_enter Tryd.func59, Tryd.ntmps59
    go_wp2_with fail
    refine (isSign_any n _).mono ?_
    rintro e w1 ⟨rfl, rfl⟩
    rw [HK.out]
    go_wp2
    go_ret2
    exact ⟨by rw [HS.out]; rfl, rfl⟩
theorem space_any (c : UInt8) (w : World) : Calls Tryd.prog 39 #[.int .u8 c.toNat] w fun e w' => e = .returned (.bool (spB c)) ∧ w = w' := by
  go_enter Tryd.func39, Tryd.ntmps39
  have h9 : ((c.toNat : Int) == 9) = (c.toNat == 9) := by rw [Bool.eq_iff_iff]; simp; omega
  have h10 : ((c.toNat : Int) == 10) = (c.toNat == 10) := by rw [Bool.eq_iff_iff]; simp; omega
  have h13 : ((c.toNat : Int) == 13) = (c.toNat == 13) := by rw [Bool.eq_iff_iff]; simp; omega
  have h32 : ((c.toNat : Int) == 32) = (c.toNat == 32) := by rw [Bool.eq_iff_iff]; simp; omega
  have HS := Lib.hid (show spB c = (((c.toNat : Int) == 9) || ((c.toNat : Int) == 10) || ((c.toNat : Int) == 13) || ((c.toNat : Int) == 32)) by rw [h9, h10, h13, h32]; rfl)
  clear h9 h10 h13 h32
  go_wp2
  all_goals
    go_ret
    exact ⟨eb_ret (by rw [HS.out]; try simp [*]), rfl⟩
set_option maxRecDepth 100000 in
set_option maxHeartbeats 2000000 in
theorem bodyOf_any (l : List UInt8) (w : World) (hl : l.length ≤ 200000) : Calls Tryd.prog 51 #[.string ⟨l.toArray⟩] w fun e w' => e = .returned (.tuple #[.string ⟨((bo l).getD []).toArray⟩, .bool (bo l).isSome]) ∧ Kept w w' := by
  have hsz : (ByteArray.mk l.toArray).size = l.length := List.size_toArray
  go_enter Tryd.func51, Tryd.ntmps51
  go_wp2
  go_loopw [] (fun wr => ∃ p, wr.heap[w.heap.size]? = some (.stringIter ⟨l.toArray⟩ p) ∧ Below w.heap.size w wr ∧ BoI l p) (fun wr => l.length - wr.iterPos w.heap.size)
  case atStart => exact ⟨0, World.iter_heap w _ 0, (Below.refl _ w).alloc (Nat.le_refl _) _, BoI.start l⟩
  case round =>
    obtain ⟨p, hit, hb, hI⟩ := hrel
    by_cases hp : p < l.length
    · have hnx : ∀ ty, (Instr.next (.pointer (some ⟨w.heap.size, 0, none⟩)) true ty).run Tryd.prog wr = _ := fun ty => Lib.run_next_any_at wr w.heap.size ⟨l.toArray⟩ p ty hit (by rw [hsz]; exact hp)
      have hs := stp_of l p hp
      generalize Utf8.decode ⟨l.toArray⟩ p = d at hnx hs
      obtain ⟨r, k⟩ := d
      simp only at hnx hs
      have hit2 := Lib.iterAt_heap wr w.heap.size ⟨l.toArray⟩ p (p + k) hit
      have hb2 := kept_it hb ⟨l.toArray⟩ (p + k)
      have hk2 := Kept.of_below hb2
      have hpl := hI.1
      generalize wr.iterAt w.heap.size ⟨l.toArray⟩ (p + k) = W2 at *
      by_cases h10 : 10 < p
      · have HN := Lib.hid (hI.over h10)
        have c1 : (10 : Int) < (p : Int) := by omega
        go_wp2
        go_ret2
        exact ⟨by rw [HN.out]; rfl, hk2⟩
      have c1 : ¬ (10 : Int) < (p : Int) := by omega
      by_cases h38 : r = 38
      · have HN := Lib.hid (hI.amp hs h38)
        subst h38
        go_wp2
        go_ret2
        exact ⟨by rw [HN.out]; rfl, hk2⟩
      have c2 : ((r : Int) == 38) = false := by simp; omega
      by_cases h59 : r = 59
      · have HN := Lib.hid (hI.semi hs (by omega) h59)
        subst h59
        have hc := cut_to l p hpl
        go_wp2
        go_ret2
        refine ⟨?_, hk2⟩
        rw [HN.out]
        by_cases h0 : p = 0
        · subst h0; rfl
        · rw [if_neg h0]; simp; omega
      · have c3 : ((r : Int) == 59) = false := by simp; omega
        have hN := Lib.hid (hI.next hs h38 h59)
        have hlt := hs.pos
        clear hI
        go_wp2
        go_roundw
        case rel => exact ⟨p + k, hit2, hb2, hN.out⟩
        case measure =>
          simp only [World.iterPos, hit2, hit]
          omega
    · have hnx : ∀ ty, (Instr.next (.pointer (some ⟨w.heap.size, 0, none⟩)) true ty).run Tryd.prog wr = _ := fun ty => Lib.run_next_end_at wr w.heap.size ⟨l.toArray⟩ p ty hit (by rw [hsz]; exact hp)
      have HN := Lib.hid (hI.done hp)
      have hk2 := Kept.of_below hb
      go_wp2
      go_ret2
      exact ⟨by rw [HN.out]; rfl, hk2⟩
end Go.Proofs.YtpkbcomdkamglaaDoor
