import Derived.Test.YtjlpkgipdkjfhaaGreatDoorHa
import Derived.Test.YtjlpkgipdkjfhaaGreatDoorMb
import Derived.RegionTactic
import Derived.ChangeAlike
set_option linter.unusedVariables false
set_option linter.unusedSimpArgs false
namespace Go.Proofs.YtjlpkgipdkjfhaaGreatDoor.Bk.Qp
open Go.ChangeShapes Go.WideShapes Go.ChangeAt Go.RowKit
theorem ext_of (l : List UInt8) (a b : Nat) : (ByteArray.mk l.toArray).extract a b = ⟨((l.take b).drop a).toArray⟩ := by
  apply ByteArray.ext
  rw [ByteArray.data_extract]
  simp [List.drop_take]
theorem cut_both (l : List UInt8) (a b : Nat) (h1 : a ≤ b) (h2 : b ≤ l.length) (W : World) :
    (Instr.slice 9 (.string ⟨l.toArray⟩) (some (.int .i64 a)) (some (.int .i64 b)) none).run Tryz.prog W = .ok (.string ⟨((l.take b).drop a).toArray⟩) W := by
  rw [run_slice_string W 9 _ .i64 .i64 _ _ Tryz.underlying9 (by omega) (by omega) (by show (b : Int) ≤ l.length; omega)]
  rw [show (a : Int).toNat = a by omega, show (b : Int).toNat = b by omega, ext_of]
theorem cut_from (l : List UInt8) (x : Int) (a : Nat) (hx : x = a) (h1 : a ≤ l.length) (W : World) :
    (Instr.slice 9 (.string ⟨l.toArray⟩) (some (.int .i64 x)) none none).run Tryz.prog W = .ok (.string ⟨(l.drop a).toArray⟩) W := by
  subst hx
  have hs : (ByteArray.mk l.toArray).size = l.length := List.size_toArray
  rw [run_slice_string_l W 9 _ Tryz.underlying9 .i64 _ (by omega) (by rw [hs]; omega), hs]
  rw [show (a : Int).toNat = a by omega, ext_of, List.take_length]
theorem cut_to (l : List UInt8) (b : Nat) (h1 : b ≤ l.length) (W : World) :
    (Instr.slice 9 (.string ⟨l.toArray⟩) none (some (.int .i64 b)) none).run Tryz.prog W = .ok (.string ⟨(l.take b).toArray⟩) W := by
  have hs : (ByteArray.mk l.toArray).size = l.length := List.size_toArray
  rw [run_slice_string_h W 9 _ Tryz.underlying9 .i64 _ (by omega) (by rw [hs]; omega)]
  rw [show (b : Int).toNat = b by omega, ext_of, List.drop_zero]
set_option maxRecDepth 100000 in
theorem isSign_any (c : UInt8) (w : World) : Calls Tryz.prog 241 #[.int .u8 c.toNat] w fun e w' => e = .returned (.bool (isS c)) ∧ w' = w := by
  have HK := Lib.hid (show isS c = (decide (32 < (c.toNat : Int)) && decide ((c.toNat : Int) ≤ 126)) by unfold isS; rw [← Bool.decide_and]; exact decide_eq_decide.2 (by omega))
  by_cases h : 32 < (c.toNat : Int)
  · go_enter Tryz.func241, Tryz.ntmps241
    go_wp2
    go_ret
    exact ⟨eb_ret (by rw [HK.out, decide_eq_true h, Bool.true_and]), rfl⟩
  · go_enter Tryz.func241, Tryz.ntmps241
    go_wp2
    go_ret
    exact ⟨eb_ret (by rw [HK.out, show decide (32 < (c.toNat : Int)) = false by simpa using h, Bool.false_and]), rfl⟩
def beg (p s : B) : Bool := decide (s.take p.length = p)
set_option maxRecDepth 100000 in
theorem hasp_any (s p : B) (w : World) (hs : s.length ≤ maxLen) (hp : p.length ≤ maxLen) : Calls Tryz.prog 177 #[sV s, sV p] w fun e w' => e = .returned (.bool (beg p s)) ∧ w' = w := by
  unfold maxLen at hs hp
  by_cases h : (p.length : Int) ≤ s.length
  · have hc := cut_to s p.length (by omega)
    have hsz : (ByteArray.mk p.toArray).size = p.length := List.size_toArray
    have hss : (ByteArray.mk s.toArray).size = s.length := List.size_toArray
    go_enter Tryz.func177, Tryz.ntmps177
    go_wp2
    go_ret
    exact ⟨eb_ret (Bool.eq_iff_iff.2 (by simp [beg])), rfl⟩
  · have hl : ¬ s.take p.length = p := fun e => by have := congrArg List.length e; simp at this; omega
    have hsz : (ByteArray.mk p.toArray).size = p.length := List.size_toArray
    have hss : (ByteArray.mk s.toArray).size = s.length := List.size_toArray
    go_enter Tryz.func177, Tryz.ntmps177
    go_wp2
    go_ret
    exact ⟨by simp [beg, hl], rfl⟩
set_option maxRecDepth 100000 in
theorem hasPrefix_any (s p : B) (w : World) (hs : s.length ≤ maxLen) (hp : p.length ≤ maxLen) : Calls Tryz.prog 149 #[sV s, sV p] w fun e w' => e = .returned (.bool (beg p s)) ∧ w' = w := by
  go_enter Tryz.func149, Tryz.ntmps149
  go_wp2_with fail
  refine (hasp_any s p w hs hp).mono ?_
  rintro e x ⟨rfl, rfl⟩
  go_wp2
  go_ret
  exact ⟨rfl, rfl⟩
def cpS (p s : B) : B := if beg p s = true then s.drop p.length else s
theorem beg_le {p s : B} (h : beg p s = true) : p.length ≤ s.length := by
  unfold beg at h
  have := congrArg List.length (of_decide_eq_true h)
  simp at this; omega
set_option maxRecDepth 100000 in
theorem cutp_any (s p : B) (w : World) (hs : s.length ≤ maxLen) (hp : p.length ≤ maxLen) : Calls Tryz.prog 233 #[sV s, sV p] w fun e w' => e = .returned (.tuple #[sV (cpS p s), .bool (beg p s)]) ∧ w' = w := by
  have hsz : (ByteArray.mk p.toArray).size = p.length := List.size_toArray
  cases hb : beg p s with
  | true =>
    have HC := Lib.hid (show cpS p s = s.drop p.length by unfold cpS; rw [if_pos hb])
    have hc := cut_from s (p.length : Int) p.length rfl (beg_le hb)
    go_enter Tryz.func233, Tryz.ntmps233
    go_wp2_with fail
    refine (hasp_any s p w hs hp).mono ?_
    rintro e x ⟨rfl, rfl⟩
    rw [hb]
    clear hb
    unfold maxLen at hs hp
    go_wp2
    go_ret2
    exact ⟨by rw [HC.out]; rfl, rfl⟩
  | false =>
    have HC := Lib.hid (show cpS p s = s by unfold cpS; rw [if_neg (by rw [hb]; decide)])
    go_enter Tryz.func233, Tryz.ntmps233
    go_wp2_with fail
    refine (hasp_any s p w hs hp).mono ?_
    rintro e x ⟨rfl, rfl⟩
    rw [hb]
    clear hb
    go_wp2
    go_ret2
    exact ⟨by rw [HC.out]; rfl, rfl⟩
set_option maxRecDepth 100000 in
theorem cutPrefix_any (s p : B) (w : World) (hs : s.length ≤ maxLen) (hp : p.length ≤ maxLen) : Calls Tryz.prog 190 #[sV s, sV p] w fun e w' => e = .returned (.tuple #[sV (cpS p s), .bool (beg p s)]) ∧ w' = w := by
  go_enter Tryz.func190, Tryz.ntmps190
  go_wp2_with fail
  refine (cutp_any s p w hs hp).mono ?_
  rintro e x ⟨rfl, rfl⟩
  go_wp2
  go_ret2
  exact ⟨rfl, rfl⟩
theorem drop_cons {l : B} {i : Nat} {c : UInt8} (h : l[i]? = some c) : l.drop i = c :: l.drop (i + 1) := by
  obtain ⟨hi, rfl⟩ := List.getElem?_eq_some_iff.1 h
  exact List.drop_eq_getElem_cons hi
theorem on_some {l : B} {i : Nat} {d : UInt8} (h : l[i]? = some d) : on (l.drop i) = decide (¬ d.toNat = 10) := by rw [drop_cons h]; rfl
theorem on_none {l : B} {i : Nat} (h : l.length ≤ i) : on (l.drop i) = false := by rw [List.drop_eq_nil_of_le h]; rfl
set_option maxRecDepth 100000 in
set_option maxHeartbeats 1000000 in
theorem isPlain_any (v : Value) (l : B) (i : Nat) (c : UInt8) (w : World) (hR : BRd v l w) (hc : l[i]? = some c) (hl : l.length ≤ maxLen) : Calls Tryz.prog 198 #[v, iV i] w fun e w' => e = .returned (.bool (pln c (l.drop (i + 1)))) ∧ w' = w := by
  unfold maxLen at hl
  have hi := (List.getElem?_eq_some_iff.1 hc).1
  obtain ⟨g, o, cp, hv, hcp, c0⟩ := hR.at hc
  have HR := Lib.hid hR
  clear hR
  subst hv
  have hiI : (i : Int) < l.length := by omega
  by_cases h1 : isB c = true
  · have HP := Lib.hid (show pln c (l.drop (i + 1)) = on (l.drop (i + 1)) by unfold pln; rw [if_pos h1])
    have hb : (c.toNat : Int) = 32 ∨ (c.toNat : Int) = 9 := by unfold isB at h1; have := of_decide_eq_true h1; omega
    by_cases h2 : (i : Int) + 1 < l.length
    · obtain ⟨d, hd⟩ : ∃ d, l[i + 1]? = some d := ⟨_, List.getElem?_eq_getElem (by omega)⟩
      obtain ⟨g2, o2, cp2, hv2, _, c1⟩ := HR.out.at hd
      cases hv2
      have HO := Lib.hid (HP.out.trans (on_some hd))
      clear HP hd h1 HR
      rcases hb with h | h
      · rw [h] at c0
        go_enter Tryz.func198, Tryz.ntmps198
        go_wp2
        go_ret
        exact ⟨eb_ret (by rw [HO.out]; exact Bool.eq_iff_iff.2 (by simp; omega)), rfl⟩
      · rw [h] at c0
        go_enter Tryz.func198, Tryz.ntmps198
        go_wp2
        go_ret
        exact ⟨eb_ret (by rw [HO.out]; exact Bool.eq_iff_iff.2 (by simp; omega)), rfl⟩
    · have HO := Lib.hid (HP.out.trans (on_none (by omega)))
      clear HP h1 HR
      rcases hb with h | h
      · rw [h] at c0
        go_enter Tryz.func198, Tryz.ntmps198
        go_wp2
        go_ret
        exact ⟨eb_ret (by rw [HO.out]), rfl⟩
      · rw [h] at c0
        go_enter Tryz.func198, Tryz.ntmps198
        go_wp2
        go_ret
        exact ⟨eb_ret (by rw [HO.out]), rfl⟩
  · have HP := Lib.hid (show pln c (l.drop (i + 1)) = (isS c && decide (¬ c.toNat = 61)) by unfold pln; rw [if_neg h1])
    have b1 : ¬ (c.toNat : Int) = 32 := fun e => h1 (by unfold isB; exact decide_eq_true (by omega))
    have b2 : ¬ (c.toNat : Int) = 9 := fun e => h1 (by unfold isB; exact decide_eq_true (by omega))
    clear h1 HR
    by_cases h3 : (c.toNat : Int) = 61
    · rw [h3] at c0
      go_enter Tryz.func198, Tryz.ntmps198
      go_wp2
      go_ret
      exact ⟨eb_ret (by rw [HP.out]; exact (Bool.and_eq_false_iff.2 (Or.inr (decide_eq_false (by omega)))).symm), rfl⟩
    · go_enter Tryz.func198, Tryz.ntmps198
      go_wp2_with fail
      refine (isSign_any c w).mono ?_
      rintro e x ⟨rfl, rfl⟩
      go_wp2
      go_ret
      exact ⟨eb_ret (by rw [HP.out, decide_eq_true (show ¬ c.toNat = 61 by omega), Bool.and_true]), rfl⟩
theorem and15 (c : UInt8) : bits BinOp.and IntKind.u8 (c.toNat : Int) 15 = ((c.toNat % 16 : Nat) : Int) := by
  have h : ∀ n : Nat, n < 256 → bits BinOp.and IntKind.u8 (n : Int) 15 = ((n % 16 : Nat) : Int) := by decide +kernel
  exact h _ (by have := c.toNat_lt; omega)
theorem hx_at (n : Nat) (h : n < (ByteArray.mk #[48, 49, 50, 51, 52, 53, 54, 55, 56, 57, 65, 66, 67, 68, 69, 70]).size) : (ByteArray.mk #[48, 49, 50, 51, 52, 53, 54, 55, 56, 57, 65, 66, 67, 68, 69, 70])[n]'h = hx n := by
  have h' : n < digS.length := h
  refine byte_at digS n (hx n) ?_ h
  unfold hx
  rw [List.getD_eq_getElem?_getD, List.getElem?_eq_getElem h']; rfl
set_option maxRecDepth 100000 in
set_option maxHeartbeats 1000000 in
theorem coded_any (v : Value) (l : B) (i : Nat) (c : UInt8) (w : World) (hR : BRd v l w) (hc : l[i]? = some c) (hl : l.length ≤ maxLen) : Calls Tryz.prog 139 #[v, iV i] w fun e w' => ∃ xv, e = .returned xv ∧ BRd xv (cod c (l.drop (i + 1))) w' ∧ Kept w w' ∧ ∀ r, r < w.heap.size → v.ownBlock ≠ some r → xv.ownBlock ≠ some r := by
  have HPl := Lib.hid (isPlain_any v l i c w hR hc hl)
  have hi := (List.getElem?_eq_some_iff.1 hc).1
  obtain ⟨g, o, cp, hv, hcp, c0⟩ := hR.at hc
  have HR := Lib.hid hR
  clear hR
  subst hv
  cases hp : pln c (l.drop (i + 1)) with
  | true =>
    have HC := Lib.hid (show cod c (l.drop (i + 1)) = (l.take (i + 1)).drop i by
      have := drop_cons hc
      unfold cod
      rw [if_pos hp, List.drop_take, this]
      simp)
    have HS := Lib.hid (HR.out.sub i (i + 1) (by omega) (by omega))
    rw [hp] at HPl
    clear hp
    unfold maxLen at hl
    go_enter Tryz.func139, Tryz.ntmps139
    go_wp2_with fail
    refine HPl.out.mono ?_
    rintro e x ⟨rfl, rfl⟩
    go_wp2
    go_ret
    refine ⟨_, rfl, ?_, Kept.refl _, fun r _ h => h⟩
    rw [HC.out]
    have := HS.out
    rwa [show i + 1 - i = 1 by omega] at this
  | false =>
    have HC := Lib.hid (show cod c (l.drop (i + 1)) = quo c by unfold cod; rw [hp]; rfl)
    rw [hp] at HPl
    clear hp
    unfold maxLen at hl
    have hiI : (i : Int) < l.length := by omega
    have q1 : bits BinOp.and IntKind.u8 (c.toNat : Int) 15 = ((c.toNat % 16 : Nat) : Int) := and15 c
    have q2 : (c.toNat : Int) / 16 = ((c.toNat / 16 : Nat) : Int) := by omega
    have d1 := Lib.hid (hx_at (c.toNat / 16))
    have d2 := Lib.hid (hx_at (c.toNat % 16))
    have e1 : c.toNat / 16 < 16 := u8_half c
    have e2 : c.toNat % 16 < 16 := Nat.mod_lt _ (by decide)
    have HC := Lib.hid (HC.out.trans (show quo c = [61, hx (c.toNat / 16), hx (c.toNat % 16)] from rfl))
    generalize c.toNat / 16 = q at *
    generalize c.toNat % 16 = r at *
    have i1 : (q : Int) < 16 := by omega
    have i2 : (r : Int) < 16 := by omega
    go_enter Tryz.func139, Tryz.ntmps139
    go_wp2_with fail
    refine HPl.out.mono ?_
    rintro e x ⟨rfl, rfl⟩
    go_wp2
    go_region
    simp only [d1.out, d2.out]
    have hB := brd_new x [61, hx q, hx r] 5 #[Value.int IntKind.u8 61, Value.int IntKind.u8 (hx q).toNat, Value.int IntKind.u8 (hx r).toNat] rfl 3 (Nat.le_refl 3) (0, 0)
    have hK := (Kept.refl x).alloc (.cells #[Value.int IntKind.u8 61, Value.int IntKind.u8 (hx q).toNat, Value.int IntKind.u8 (hx r).toNat] 5)
    generalize x.alloc (.cells #[Value.int IntKind.u8 61, Value.int IntKind.u8 (hx q).toNat, Value.int IntKind.u8 (hx r).toNat] 5) = y at *
    have HB := Lib.hid (hB.kept (Kept.refl y).drew)
    have HK := Lib.hid hK.drew
    clear hB hK
    go_wp2
    go_ret
    exact ⟨_, rfl, by rw [HC.out]; exact HB.out, HK.out, fun r hr _ e => by simp [Value.ownBlock] at e; omega⟩
end Go.Proofs.YtjlpkgipdkjfhaaGreatDoor.Bk.Qp
