/- A line has at most 76 bytes, each from 32 to 126, or 9, and none ends by a blank. -/
import Derived.Test.YtkcalnmemjioaaaQpAw
import Derived.Test.YtkcalnmemjioaaaQpLn
set_option linter.unusedSimpArgs false
set_option linter.unusedVariables false
namespace Go.Proofs.Ytkcalnmemjioaaa
open Go.ChangeShapes Go.WideShapes Go.ChangeAt Go.RowKit
open Qp
section
variable {E : B} {i k : Nat} {c : UInt8}
theorem lok_13 (h : lok (prv E i) k (E.drop i)) (hc : E[i]? = some c) (h13 : c.toNat = 13) : (∃ d, E[i + 1]? = some d ∧ d.toNat = 10) ∧ ¬ blk (prv E i) ∧ lok (prv E (i + 1)) k (E.drop (i + 1)) := by
  rw [drop_cons hc] at h
  unfold lok at h
  rw [if_pos h13] at h
  obtain ⟨⟨d, hd, h10⟩, hb, hr⟩ := h
  rw [List.getElem?_drop, Nat.add_zero] at hd
  exact ⟨⟨d, hd, h10⟩, hb, by rw [show prv E (i + 1) = some c from hc]; exact hr⟩
theorem lok_10 (h : lok (prv E i) k (E.drop i)) (hc : E[i]? = some c) (h10 : c.toNat = 10) : (∃ j d, i = j + 1 ∧ E[j]? = some d ∧ d.toNat = 13) ∧ lok (prv E (i + 1)) 0 (E.drop (i + 1)) := by
  rw [drop_cons hc] at h
  unfold lok at h
  rw [if_neg (by omega), if_pos h10] at h
  obtain ⟨⟨d, hd, h13⟩, hr⟩ := h
  refine ⟨?_, by rw [show prv E (i + 1) = some c from hc]; exact hr⟩
  match i, hd with
  | j + 1, hd => exact ⟨j, d, rfl, hd, h13⟩
theorem lok_b (h : lok (prv E i) k (E.drop i)) (hc : E[i]? = some c) (h13 : ¬ c.toNat = 13) (h10 : ¬ c.toNat = 10) : k + 1 ≤ 76 ∧ (c.toNat = 9 ∨ 32 ≤ c.toNat ∧ c.toNat ≤ 126) ∧ lok (prv E (i + 1)) (k + 1) (E.drop (i + 1)) := by
  rw [drop_cons hc] at h
  unfold lok at h
  rw [if_neg h13, if_neg h10] at h
  rw [show prv E (i + 1) = some c from hc]
  exact h
theorem lok_z (h : lok (prv E i) k (E.drop i)) (hl : E.length ≤ i) : ¬ blk (prv E i) := by
  rw [List.drop_eq_nil_of_le hl] at h
  exact h
theorem not_blk {j : Nat} {d : UInt8} (hd : E[j]? = some d) (h : ¬ blk (prv E (j + 1))) : ¬ (d.toNat : Int) = 32 ∧ ¬ (d.toNat : Int) = 9 :=
  ⟨fun e => h ⟨d, hd, Or.inl (by omega)⟩, fun e => h ⟨d, hd, Or.inr (by omega)⟩⟩
end
set_option maxRecDepth 100000 in
set_option maxHeartbeats 4000000 in
theorem lines12_walk (v : Value) (l : B) (w : World) (hB : BRd v l w) (hd : l.length ≤ maxLen) : Calls Try.prog 5 #[v] w fun e w' => e = .returned (.bool true) ∧ Kept w w' := by
  unfold maxLen at hd
  obtain ⟨g, c, hv⟩ := hB.slice
  subst hv
  have HB := Lib.hid hB
  clear hB
  go_enter Try.func5, Try.ntmps5
  go_wp2_with fail
  refine (awake12_any w).mono ?_
  rintro e x1 ⟨rfl, k1⟩
  have K1 := Lib.hid k1
  clear k1
  by_cases hs : 1000 < (l.length : Int)
  · go_wp2
    go_ret
    exact ⟨rfl, K1.out⟩
  have hl : l.length ≤ 1000 := by omega
  go_wp2_with fail
  refine (encode_any _ l x1 (HB.out.kept K1.out) (by omega)).mono ?_
  rintro e x2 ⟨xv, rfl, hO, k2⟩
  have K2 := Lib.hid (K1.out.trans k2)
  have R2 := Lib.hid hO.rd
  obtain ⟨a2, c2, hv2⟩ := own_slice hO
  subst hv2
  have hel : (enc 0 l).length ≤ 6000 := by have := enc_len l 0; omega
  have HL := Lib.hid (lok_start l)
  clear hO k2 K1
  generalize enc 0 l = E at *
  go_wp2_with fail
  go_loopw [5, 6] (fun vk vi wr => ∃ i k : Nat, i ≤ E.length ∧ k ≤ 76 ∧ vi = .int .i64 i ∧ vk = .int .i64 k ∧ Hid (lok (prv E i) k (E.drop i)) ∧ Hid (wr = x2)) (fun _ vi _ => E.length - (intOf vi).toNat)
  case atStart => exact ⟨0, 0, Nat.zero_le _, by omega, rfl, rfl, HL, Lib.hid rfl⟩
  case round =>
    clear HL
    obtain ⟨i, k, hi, hk, rfl, rfl, hL, hW⟩ := hrel
    obtain rfl := hW.out
    clear hW
    by_cases hlt : i < E.length
    · have hltI : (i : Int) < E.length := by omega
      obtain ⟨x, hx⟩ : ∃ x, E[i]? = some x := ⟨_, List.getElem?_eq_getElem hlt⟩
      obtain ⟨g2, o, cp, hv', hcp, cell⟩ := R2.out.at hx
      cases hv'
      by_cases h13 : (x.toNat : Int) = 13
      · obtain ⟨⟨d, hd, h10⟩, hb, hr⟩ := lok_13 hL.out hx (by omega)
        have HR := Lib.hid hr
        have hi1 : (i : Int) + 1 < E.length := by have := (List.getElem?_eq_some_iff.1 hd).1; omega
        obtain ⟨g3, o3, cp3, hv3, _, c1⟩ := R2.out.at hd
        cases hv3
        rw [h13] at cell
        rw [show (d.toNat : Int) = 10 by omega] at c1
        cases i with
        | zero =>
          rw [Nat.add_zero] at cell
          rw [Nat.zero_add] at c1
          have hi1' : (1 : Int) < E.length := by omega
          clear hx hd hb hr hL
          go_wp2_with fail
          exact ⟨⟨1, k, by omega, hk, by go_num, rfl, HR, Lib.hid trivial⟩, by simp [intOf]; omega⟩
        | succ j =>
          obtain ⟨d2, hd2⟩ : ∃ d2, E[j]? = some d2 := ⟨_, List.getElem?_eq_getElem (by omega)⟩
          obtain ⟨n1, n2⟩ := not_blk hd2 hb
          obtain ⟨g4, o4, cp4, hv4, _, c3⟩ := R2.out.at hd2
          cases hv4
          have hjI : (j : Int) < E.length := by omega
          have b1 : ((d2.toNat : Int) == 32) = false := beq_eq_false_iff_ne.2 n1
          have b2 : ((d2.toNat : Int) == 9) = false := beq_eq_false_iff_ne.2 n2
          clear hx hd hb hr hL hd2 n1 n2
          go_wp2_with fail
          exact ⟨⟨j + 2, k, by omega, hk, by go_num, rfl, HR, Lib.hid trivial⟩, by simp [intOf]; omega⟩
      by_cases h10 : (x.toNat : Int) = 10
      · obtain ⟨⟨j, d2, rfl, hd2, h13'⟩, hr⟩ := lok_10 hL.out hx (by omega)
        have HR := Lib.hid hr
        obtain ⟨g4, o4, cp4, hv4, _, c3⟩ := R2.out.at hd2
        cases hv4
        have hjI : (j : Int) < E.length := by omega
        rw [h10] at cell
        rw [show (d2.toNat : Int) = 13 by omega] at c3
        clear hx hr hL hd2
        go_wp2_with fail
        exact ⟨⟨j + 2, 0, by omega, by omega, by go_num, rfl, HR, Lib.hid trivial⟩, by simp [intOf]; omega⟩
      · obtain ⟨hk2, hc, hr⟩ := lok_b hL.out hx (by omega) (by omega)
        have HR := Lib.hid hr
        have hkI : ¬ 76 < (k : Int) + 1 := by omega
        by_cases h9 : (x.toNat : Int) = 9
        · rw [h9] at cell
          clear hx hr hL hc h9
          go_wp2_with fail
          go_roundw
          case rel => exact ⟨i + 1, k + 1, by omega, by omega, by go_num, by go_num, HR, Lib.hid trivial⟩
          case measure => simp [intOf]; omega
        · have h32 : ¬ (x.toNat : Int) < 32 := by omega
          have h126 : ¬ 126 < (x.toNat : Int) := by omega
          clear hx hr hL hc
          go_wp2_with fail
          go_roundw
          case rel => exact ⟨i + 1, k + 1, by omega, by omega, by go_num, by go_num, HR, Lib.hid trivial⟩
          case measure => simp [intOf]; omega
    · have hltI : ¬ (i : Int) < E.length := by omega
      obtain rfl : i = E.length := by omega
      have hz := lok_z hL.out (Nat.le_refl _)
      clear hL
      by_cases h0 : E.length = 0
      · have h0I : ((E.length : Int) == 0) = true := beq_iff_eq.2 (by omega)
        go_wp2_with fail
        go_ret
        exact ⟨rfl, K2.out⟩
      · obtain ⟨j, hj⟩ : ∃ j, E.length = j + 1 := ⟨E.length - 1, by omega⟩
        obtain ⟨d2, hd2⟩ : ∃ d2, E[j]? = some d2 := ⟨_, List.getElem?_eq_getElem (by omega)⟩
        obtain ⟨n1, n2⟩ := not_blk hd2 (by rw [← hj]; exact hz)
        obtain ⟨g4, o4, cp4, hv4, hcp, c3⟩ := R2.out.at hd2
        cases hv4
        have b1 : ((d2.toNat : Int) == 32) = false := beq_eq_false_iff_ne.2 n1
        have b2 : ((d2.toNat : Int) == 9) = false := beq_eq_false_iff_ne.2 n2
        rw [hj] at hcp hltI ⊢
        have b0 : ((j : Int) + 1 == 0) = false := beq_eq_false_iff_ne.2 (by omega)
        clear hz hd2 b1 b2
        go_wp2_with fail
        go_ret
        exact ⟨eb_ret (show ((d2.toNat : Int) != 32 && (d2.toNat : Int) != 9) = true by rw [Bool.and_eq_true, bne_iff_ne, bne_iff_ne]; exact ⟨n1, n2⟩), K2.out⟩
end Go.Proofs.Ytkcalnmemjioaaa
