/- A text without a mark and without an entity is the same, but for blanks; lines of a plain text are in order. -/
import Derived.Test.YtpkbcomdkamglaaDoorPlLp
import Derived.Test.YtpkbcomdkamglaaDoorEnRefB
set_option linter.unusedSimpArgs false
set_option linter.unusedVariables false
namespace Go.Proofs.YtpkbcomdkamglaaDoor.Pl
open Go.ChangeShapes Go.WideShapes Go.ChangeAt Go.RowKit
open En
set_option maxRecDepth 100000 in
set_option maxHeartbeats 4000000 in
theorem same11_walk (l : B) (w : World) (hz : l.length ≤ maxLen) (hE : EnvP w) : Calls Tryd.prog 3 #[.string ⟨l.toArray⟩] w fun e w' => e = .returned (.bool true) ∧ Kept w w' := by
  have HE := Lib.hid hE
  unfold maxLen at hz
  clear hE
  go_enter Tryd.func3, Tryd.ntmps3
  go_wp2_with fail
  refine (awake11_any _ HE.out).mono ?_
  rintro e w1 ⟨rfl, k1⟩
  by_cases hl : ¬ l.length ≤ 1000
  · have hlI : (1000 : Int) < l.length := by omega
    go_wp2
    go_ret
    exact ⟨rfl, k1⟩
  have hl : l.length ≤ 1000 := Classical.not_not.1 hl
  have hlI : ¬ (1000 : Int) < l.length := by omega
  have K1 := Lib.hid k1
  clear k1
  go_wp2_with fail
  go_loopw [4] (fun vi wr => ∃ i : Nat, i ≤ l.length ∧ vi = .int .i64 i ∧ Hid (∀ k, k < i → ∀ b, l[k]? = some b → b ≠ 60 ∧ b ≠ 38) ∧ Hid (wr = w1)) (fun vi _ => l.length - (intOf vi).toNat)
  case atStart => exact ⟨0, Nat.zero_le _, rfl, Lib.hid (fun k hk => by omega), Lib.hid rfl⟩
  case round =>
    obtain ⟨i, hi, rfl, hA, hW⟩ := hrel
    obtain rfl := hW.out
    clear hW
    by_cases hlt : i < l.length
    · have hltI : (i : Int) < l.length := by omega
      obtain ⟨b, hb⟩ : ∃ b, l[i]? = some b := ⟨_, List.getElem?_eq_getElem hlt⟩
      have hat := byte_at l i b hb
      by_cases h60 : b = 60
      · have hbI : ((b.toNat : Int) == 60) = true := by rw [h60]; rfl
        clear h60 hb hA
        go_wp2
        go_ret
        exact ⟨rfl, K1.out⟩
      · have hbI : ((b.toNat : Int) == 60) = false := by
          have : b.toNat ≠ 60 := fun e => h60 (UInt8.toNat_inj.1 e)
          simp; omega
        by_cases h38 : b = 38
        · have hbJ : ((b.toNat : Int) == 38) = true := by rw [h38]; rfl
          clear h60 h38 hb hA
          go_wp2
          go_ret
          exact ⟨rfl, K1.out⟩
        · have hbJ : ((b.toNat : Int) == 38) = false := by
            have : b.toNat ≠ 38 := fun e => h38 (UInt8.toNat_inj.1 e)
            simp; omega
          have HA2 := Lib.hid (show ∀ k, k < i + 1 → ∀ b, l[k]? = some b → b ≠ 60 ∧ b ≠ 38 from fun k hk b' hb' => by
            by_cases e : k = i
            · subst e; rw [hb] at hb'; cases hb'; exact ⟨h60, h38⟩
            · exact hA.out k (by omega) b' hb')
          clear h60 h38 hb hA
          go_wp2
          go_roundw
          case rel => exact ⟨i + 1, hlt, by go_num, HA2, Lib.hid trivial⟩
          case measure => simp [intOf]; omega
    · obtain rfl : i = l.length := by omega
      have hmem : ∀ b ∈ l, b ≠ 60 ∧ b ≠ 38 := fun b hb => by
        obtain ⟨k, hk, e⟩ := List.mem_iff_getElem.1 hb
        exact hA.out k hk b (by rw [List.getElem?_eq_getElem hk, e])
      have hof := of_plain (fun h => (hmem 60 h).1 rfl) (fun h => (hmem 38 h).2 rfl)
      have HO := Lib.hid (fun w hE => of_any l w hE (by omega))
      have HT := Lib.hid (fun w => rtrim_any l w (by omega))
      rw [hof] at HO
      clear hof hmem hA
      generalize tr l = t at *
      go_wp2_with fail
      refine (HO.out _ (HE.out.kept K1.out)).mono ?_
      rintro e w2 ⟨rfl, k2⟩
      go_wp2_with fail
      refine (HT.out _).mono ?_
      rintro e w3 ⟨rfl, k3⟩
      have K3 := (K1.out.trans k2).trans k3
      go_wp2
      go_ret
      exact ⟨by simp, K3⟩
set_option maxRecDepth 100000 in
set_option maxHeartbeats 4000000 in
theorem lines11_walk (l : B) (w : World) (hz : l.length ≤ maxLen) (hE : EnvP w) : Calls Tryd.prog 4 #[.string ⟨l.toArray⟩] w fun e w' => e = .returned (.bool true) ∧ Kept w w' := by
  have HE := Lib.hid hE
  unfold maxLen at hz
  clear hE
  go_enter Tryd.func4, Tryd.ntmps4
  go_wp2_with fail
  refine (awake11_any _ HE.out).mono ?_
  rintro e w1 ⟨rfl, k1⟩
  by_cases hl : ¬ l.length ≤ 1000
  · have hlI : (1000 : Int) < l.length := by omega
    go_wp2
    go_ret
    exact ⟨rfl, k1⟩
  have hl : l.length ≤ 1000 := Classical.not_not.1 hl
  have hlI : ¬ (1000 : Int) < l.length := by omega
  have hok := of_ok l
  have htl := of_len l hl
  have HO := Lib.hid (fun w hE => of_any l w hE (by omega))
  generalize ofP l = t at *
  have H1 := Lib.hid hok.1
  have H2 := Lib.hid hok.2
  have K1 := Lib.hid k1
  clear k1 hok
  go_wp2_with fail
  refine (HO.out _ (HE.out.kept K1.out)).mono ?_
  rintro e w2 ⟨rfl, k2⟩
  have K2 := Lib.hid (K1.out.trans k2)
  clear k2
  go_wp2_with fail
  go_loopw [5, 6] (fun vp vi wr => ∃ (i : Nat) (p : UInt8), i ≤ t.length ∧ vi = .int .i64 i ∧ vp = .int .u8 p.toNat ∧ Hid (okF p (t.drop i) = true) ∧ Hid (lastB p (t.drop i) = lastB 10 t) ∧ Hid (wr = w2)) (fun _ vi _ => t.length - (intOf vi).toNat)
  case atStart => exact ⟨0, 10, Nat.zero_le _, rfl, rfl, H1, Lib.hid rfl, Lib.hid rfl⟩
  case round =>
    obtain ⟨i, p, hi, rfl, rfl, hA, hL, hW⟩ := hrel
    obtain rfl := hW.out
    clear hW
    by_cases hlt : i < t.length
    · have hltI : (i : Int) < t.length := by omega
      obtain ⟨c, hc⟩ : ∃ c, t[i]? = some c := ⟨_, List.getElem?_eq_getElem hlt⟩
      have hat := byte_at t i c hc
      have hA2 := hA.out
      have hL2 := hL.out
      rw [okF_drop hc] at hA2
      rw [lastB_drop hc] at hL2
      simp only [Bool.and_eq_true, Bool.not_eq_true'] at hA2
      obtain ⟨hbad, hA3⟩ := hA2
      have HA3 := Lib.hid hA3
      have HL2 := Lib.hid hL2
      have eqc : ∀ (a : UInt8) (n : Nat), n < 256 → ((a.toNat : Int) == (n : Int)) = (a == UInt8.ofNat n) := fun a n hn => by
        rw [Bool.eq_iff_iff, beq_iff_eq, beq_iff_eq, ← UInt8.toNat_inj]
        have : (UInt8.ofNat n).toNat = n := by rw [UInt8.toNat_ofNat']; omega
        rw [this]; omega
      have c10 := eqc c 10 (by omega)
      have c32 := eqc c 32 (by omega)
      have c9 := eqc c 9 (by omega)
      have c13 := eqc c 13 (by omega)
      have p10 := eqc p 10 (by omega)
      have p32 := eqc p 32 (by omega)
      simp only [Int.cast_ofNat_Int] at c10 c32 c9 c13 p10 p32
      have hbe : badB p c = ((c == 10 && p == 10) || (c == 32 && (p == 32 || p == 10)) || (c == 10 && p == 32) || c == 9 || c == 13) := rfl
      rw [hbad, show (10 : UInt8) = UInt8.ofNat 10 from rfl, show (32 : UInt8) = UInt8.ofNat 32 from rfl, show (9 : UInt8) = UInt8.ofNat 9 from rfl, show (13 : UInt8) = UInt8.ofNat 13 from rfl, ← c10, ← c32, ← c9, ← c13, ← p10, ← p32] at hbe
      clear c10 c32 c9 c13 p10 p32 eqc hc hbad hA3 hL2 hA hL
      have hbe2 := hbe.symm
      simp only [Bool.or_eq_false_iff] at hbe2
      obtain ⟨⟨⟨⟨b1, b2⟩, b3⟩, b4⟩, b5⟩ := hbe2
      clear hbe
      cases q1 : ((c.toNat : Int) == 10) with
      | true =>
        rw [q1, Bool.true_and] at b1 b3
        cases q2 : ((c.toNat : Int) == 32) with
        | true =>
          exfalso
          rw [beq_iff_eq] at q1 q2
          omega
        | false =>
          clear b2
          go_wp2
          go_roundw
          case rel => exact ⟨i + 1, c, hlt, by go_num, rfl, HA3, HL2, Lib.hid trivial⟩
          case measure => simp [intOf]; omega
      | false =>
        cases q2 : ((c.toNat : Int) == 32) with
        | true =>
          rw [q2, Bool.true_and, Bool.or_eq_false_iff] at b2
          obtain ⟨b2, b6⟩ := b2
          clear b1 b3
          go_wp2
          go_roundw
          case rel => exact ⟨i + 1, c, hlt, by go_num, rfl, HA3, HL2, Lib.hid trivial⟩
          case measure => simp [intOf]; omega
        | false =>
          clear b1 b2 b3
          go_wp2
          go_roundw
          case rel => exact ⟨i + 1, c, hlt, by go_num, rfl, HA3, HL2, Lib.hid trivial⟩
          case measure => simp [intOf]; omega
    · obtain rfl : i = t.length := by omega
      have hp : p = lastB 10 t := by have := hL.out; rw [List.drop_length] at this; exact this
      clear hA hL
      by_cases ht : t = []
      · subst ht
        clear hp
        go_wp2
        go_ret
        exact ⟨rfl, K2.out⟩
      · have hte : t.isEmpty = false := by cases t with
          | nil => exact absurd rfl ht
          | cons a r => rfl
        have hsp := H2.out ht
        rw [← hp] at hsp
        obtain ⟨-, s2, -, s4⟩ := spB_no hsp
        have p10 : ((p.toNat : Int) == 10) = false := by
          have : p.toNat ≠ 10 := fun e => s2 (UInt8.toNat_inj.1 e)
          simp; omega
        have p32 : ((p.toNat : Int) == 32) = false := by
          have : p.toNat ≠ 32 := fun e => s4 (UInt8.toNat_inj.1 e)
          simp; omega
        have p10n : ((p.toNat : Int) != 10) = true := by rw [bne, p10]; rfl
        have p32n : ((p.toNat : Int) != 32) = true := by rw [bne, p32]; rfl
        clear hp hsp s2 s4 ht
        go_wp2
        go_ret
        exact ⟨rfl, K2.out⟩
end Go.Proofs.YtpkbcomdkamglaaDoor.Pl
