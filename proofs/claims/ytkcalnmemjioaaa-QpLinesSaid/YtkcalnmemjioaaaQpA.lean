/- Package qp's small functions: signs, plain bytes, how texts begin. -/
import Derived.Test.YtkcalnmemjioaaaQpB
set_option linter.unusedSimpArgs false
set_option linter.unusedVariables false
namespace Go.Proofs.Ytkcalnmemjioaaa
open Go.ChangeShapes Go.WideShapes Go.ChangeAt Go.RowKit
open Qp
theorem ext_of (l : List UInt8) (a b : Nat) : (ByteArray.mk l.toArray).extract a b = ⟨((l.take b).drop a).toArray⟩ := by
  apply ByteArray.ext
  rw [ByteArray.data_extract]
  simp [List.drop_take]
theorem cut_both (l : List UInt8) (a b : Nat) (h1 : a ≤ b) (h2 : b ≤ l.length) (W : World) :
    (Instr.slice 9 (.string ⟨l.toArray⟩) (some (.int .i64 a)) (some (.int .i64 b)) none).run Try.prog W = .ok (.string ⟨((l.take b).drop a).toArray⟩) W := by
  rw [run_slice_string W 9 _ .i64 .i64 _ _ Try.underlying9 (by omega) (by omega) (by show (b : Int) ≤ l.length; omega)]
  rw [show (a : Int).toNat = a by omega, show (b : Int).toNat = b by omega, ext_of]
theorem cut_from (l : List UInt8) (x : Int) (a : Nat) (hx : x = a) (h1 : a ≤ l.length) (W : World) :
    (Instr.slice 9 (.string ⟨l.toArray⟩) (some (.int .i64 x)) none none).run Try.prog W = .ok (.string ⟨(l.drop a).toArray⟩) W := by
  subst hx
  have hs : (ByteArray.mk l.toArray).size = l.length := List.size_toArray
  rw [run_slice_string_l W 9 _ Try.underlying9 .i64 _ (by omega) (by rw [hs]; omega), hs]
  rw [show (a : Int).toNat = a by omega, ext_of, List.take_length]
theorem cut_to (l : List UInt8) (b : Nat) (h1 : b ≤ l.length) (W : World) :
    (Instr.slice 9 (.string ⟨l.toArray⟩) none (some (.int .i64 b)) none).run Try.prog W = .ok (.string ⟨(l.take b).toArray⟩) W := by
  have hs : (ByteArray.mk l.toArray).size = l.length := List.size_toArray
  rw [run_slice_string_h W 9 _ Try.underlying9 .i64 _ (by omega) (by rw [hs]; omega)]
  rw [show (b : Int).toNat = b by omega, ext_of, List.drop_zero]
theorem sV_eq {a b : B} : sV a = sV b ↔ a = b := by
  constructor
  · intro h; injection h with h; injection h with h; simpa using h
  · rintro rfl; rfl
set_option maxRecDepth 100000 in
theorem isSign_any (c : UInt8) (w : World) : Calls Try.prog 23 #[.int .u8 c.toNat] w fun e w' => e = .returned (.bool (isS c)) ∧ w' = w := by
  have HK := Lib.hid (show isS c = (decide (32 < (c.toNat : Int)) && decide ((c.toNat : Int) ≤ 126)) by unfold isS; rw [← Bool.decide_and]; exact decide_eq_decide.2 (by omega))
  by_cases h : 32 < (c.toNat : Int)
  · go_enter Try.func23, Try.ntmps23
    go_wp2
    go_ret
    exact ⟨eb_ret (by rw [HK.out, decide_eq_true h, Bool.true_and]), rfl⟩
  · go_enter Try.func23, Try.ntmps23
    go_wp2
    go_ret
    exact ⟨eb_ret (by rw [HK.out, show decide (32 < (c.toNat : Int)) = false by simpa using h, Bool.false_and]), rfl⟩
/-- does a text begin so -/
def beg (p s : B) : Bool := decide (s.take p.length = p)
theorem ba_eq (a b : B) : (decide ((⟨a.toArray⟩ : ByteArray) = ⟨b.toArray⟩)) = decide (a = b) := by
  refine decide_eq_decide.2 ⟨fun h => ?_, fun h => by rw [h]⟩
  injection h with h; simpa using h
set_option maxRecDepth 100000 in
theorem hasp_any (s p : B) (w : World) (hs : s.length ≤ maxLen) (hp : p.length ≤ maxLen) : Calls Try.prog 25 #[sV s, sV p] w fun e w' => e = .returned (.bool (beg p s)) ∧ w' = w := by
  unfold maxLen at hs hp
  by_cases h : (p.length : Int) ≤ s.length
  · have hc := cut_to s p.length (by omega)
    have hsz : (ByteArray.mk p.toArray).size = p.length := List.size_toArray
    have hss : (ByteArray.mk s.toArray).size = s.length := List.size_toArray
    go_enter Try.func25, Try.ntmps25
    go_wp2
    go_ret
    exact ⟨eb_ret (Bool.eq_iff_iff.2 (by simp [beg])), rfl⟩
  · have hl : ¬ s.take p.length = p := fun e => by have := congrArg List.length e; simp at this; omega
    have hsz : (ByteArray.mk p.toArray).size = p.length := List.size_toArray
    have hss : (ByteArray.mk s.toArray).size = s.length := List.size_toArray
    go_enter Try.func25, Try.ntmps25
    go_wp2
    go_ret
    exact ⟨by simp [beg, hl], rfl⟩
set_option maxRecDepth 100000 in
theorem hasPrefix_any (s p : B) (w : World) (hs : s.length ≤ maxLen) (hp : p.length ≤ maxLen) : Calls Try.prog 22 #[sV s, sV p] w fun e w' => e = .returned (.bool (beg p s)) ∧ w' = w := by
  go_enter Try.func22, Try.ntmps22
  go_wp2_with fail
  refine (hasp_any s p w hs hp).mono ?_
  rintro e x ⟨rfl, rfl⟩
  go_wp2
  go_ret
  exact ⟨rfl, rfl⟩
/-- a text behind its beginning -/
def cpS (p s : B) : B := if beg p s = true then s.drop p.length else s
theorem beg_le {p s : B} (h : beg p s = true) : p.length ≤ s.length := by
  unfold beg at h
  have := congrArg List.length (of_decide_eq_true h)
  simp at this; omega
set_option maxRecDepth 100000 in
theorem cutp_any (s p : B) (w : World) (hs : s.length ≤ maxLen) (hp : p.length ≤ maxLen) : Calls Try.prog 20 #[sV s, sV p] w fun e w' => e = .returned (.tuple #[sV (cpS p s), .bool (beg p s)]) ∧ w' = w := by
  have hsz : (ByteArray.mk p.toArray).size = p.length := List.size_toArray
  cases hb : beg p s with
  | true =>
    have HC := Lib.hid (show cpS p s = s.drop p.length by unfold cpS; rw [if_pos hb])
    have hc := cut_from s (p.length : Int) p.length rfl (beg_le hb)
    go_enter Try.func20, Try.ntmps20
    go_wp2_with fail
    refine (hasp_any s p w hs hp).mono ?_
    rintro e x ⟨rfl, rfl⟩
    rw [hb]
    clear hb
    unfold maxLen at hs hp
    go_wp2
    go_ret2
    exact ⟨by rw [HC.out]; rfl, rfl⟩
  | false =>
    have HC := Lib.hid (show cpS p s = s by unfold cpS; rw [if_neg (by rw [hb]; decide)])
    go_enter Try.func20, Try.ntmps20
    go_wp2_with fail
    refine (hasp_any s p w hs hp).mono ?_
    rintro e x ⟨rfl, rfl⟩
    rw [hb]
    clear hb
    go_wp2
    go_ret2
    exact ⟨by rw [HC.out]; rfl, rfl⟩
set_option maxRecDepth 100000 in
theorem cutPrefix_any (s p : B) (w : World) (hs : s.length ≤ maxLen) (hp : p.length ≤ maxLen) : Calls Try.prog 14 #[sV s, sV p] w fun e w' => e = .returned (.tuple #[sV (cpS p s), .bool (beg p s)]) ∧ w' = w := by
  go_enter Try.func14, Try.ntmps14
  go_wp2_with fail
  refine (cutp_any s p w hs hp).mono ?_
  rintro e x ⟨rfl, rfl⟩
  go_wp2
  go_ret2
  exact ⟨rfl, rfl⟩
theorem drop_cons {l : B} {i : Nat} {c : UInt8} (h : l[i]? = some c) : l.drop i = c :: l.drop (i + 1) := by
  obtain ⟨hi, rfl⟩ := List.getElem?_eq_some_iff.1 h
  exact List.drop_eq_getElem_cons hi
theorem on_some {l : B} {i : Nat} {d : UInt8} (h : l[i]? = some d) : on (l.drop i) = decide (¬ d.toNat = 10) := by rw [drop_cons h]; rfl
theorem on_none {l : B} {i : Nat} (h : l.length ≤ i) : on (l.drop i) = false := by rw [List.drop_eq_nil_of_le h]; rfl
set_option maxRecDepth 100000 in
set_option maxHeartbeats 1000000 in
theorem isPlain_any (v : Value) (l : B) (i : Nat) (c : UInt8) (w : World) (hR : BRd v l w) (hc : l[i]? = some c) (hl : l.length ≤ maxLen) : Calls Try.prog 24 #[v, iV i] w fun e w' => e = .returned (.bool (pln c (l.drop (i + 1)))) ∧ w' = w := by
  unfold maxLen at hl
  have hi := (List.getElem?_eq_some_iff.1 hc).1
  obtain ⟨g, o, cp, hv, hcp, c0⟩ := hR.at hc
  have HR := Lib.hid hR
  clear hR
  subst hv
  have hiI : (i : Int) < l.length := by omega
  by_cases h1 : isB c = true
  · have HP := Lib.hid (show pln c (l.drop (i + 1)) = on (l.drop (i + 1)) by unfold pln; rw [if_pos h1])
    have hb : (c.toNat : Int) = 32 ∨ (c.toNat : Int) = 9 := by unfold isB at h1; have := of_decide_eq_true h1; omega
    by_cases h2 : (i : Int) + 1 < l.length
    · obtain ⟨d, hd⟩ : ∃ d, l[i + 1]? = some d := ⟨_, List.getElem?_eq_getElem (by omega)⟩
      obtain ⟨g2, o2, cp2, hv2, _, c1⟩ := HR.out.at hd
      cases hv2
      have HO := Lib.hid (HP.out.trans (on_some hd))
      clear HP hd h1 HR
      rcases hb with h | h
      · rw [h] at c0
        go_enter Try.func24, Try.ntmps24
        go_wp2
        go_ret
        exact ⟨eb_ret (by rw [HO.out]; exact Bool.eq_iff_iff.2 (by simp; omega)), rfl⟩
      · rw [h] at c0
        go_enter Try.func24, Try.ntmps24
        go_wp2
        go_ret
        exact ⟨eb_ret (by rw [HO.out]; exact Bool.eq_iff_iff.2 (by simp; omega)), rfl⟩
    · have HO := Lib.hid (HP.out.trans (on_none (by omega)))
      clear HP h1 HR
      rcases hb with h | h
      · rw [h] at c0
        go_enter Try.func24, Try.ntmps24
        go_wp2
        go_ret
        exact ⟨eb_ret (by rw [HO.out]), rfl⟩
      · rw [h] at c0
        go_enter Try.func24, Try.ntmps24
        go_wp2
        go_ret
        exact ⟨eb_ret (by rw [HO.out]), rfl⟩
  · have HP := Lib.hid (show pln c (l.drop (i + 1)) = (isS c && decide (¬ c.toNat = 61)) by unfold pln; rw [if_neg h1])
    have b1 : ¬ (c.toNat : Int) = 32 := fun e => h1 (by unfold isB; exact decide_eq_true (by omega))
    have b2 : ¬ (c.toNat : Int) = 9 := fun e => h1 (by unfold isB; exact decide_eq_true (by omega))
    clear h1 HR
    by_cases h3 : (c.toNat : Int) = 61
    · rw [h3] at c0
      go_enter Try.func24, Try.ntmps24
      go_wp2
      go_ret
      exact ⟨eb_ret (by rw [HP.out]; exact (Bool.and_eq_false_iff.2 (Or.inr (decide_eq_false (by omega)))).symm), rfl⟩
    · go_enter Try.func24, Try.ntmps24
      go_wp2_with fail
      refine (isSign_any c w).mono ?_
      rintro e x ⟨rfl, rfl⟩
      go_wp2
      go_ret
      exact ⟨eb_ret (by rw [HP.out, decide_eq_true (show ¬ c.toNat = 61 by omega), Bool.and_true]), rfl⟩
end Go.Proofs.Ytkcalnmemjioaaa
