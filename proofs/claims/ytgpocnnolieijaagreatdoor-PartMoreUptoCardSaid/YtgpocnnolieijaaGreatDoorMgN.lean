/- Several texts of this seat, one behind the other. -/
import Derived.Test.YtgpocnnolieijaaGreatDoorMgA
import Derived.Test.YtgpocnnolieijaaGreatDoorMgJ
import Derived.RegionTactic
import Derived.ChangeAlike
import Derived.Deep.Cut
import Derived.WalkMore
import Derived.Deep.LoopGhost
/- Package qp's small functions: signs, plain bytes, how texts begin. -/
set_option linter.unusedSimpArgs false
set_option linter.unusedVariables false
namespace Go.Proofs.YtgpocnnolieijaaGreatDoor.Qp
open Go.ChangeShapes Go.WideShapes Go.ChangeAt Go.RowKit
theorem ext_of (l : List UInt8) (a b : Nat) : (ByteArray.mk l.toArray).extract a b = ⟨((l.take b).drop a).toArray⟩ := by
  apply ByteArray.ext
  rw [ByteArray.data_extract]
  simp [List.drop_take]
theorem cut_both (l : List UInt8) (a b : Nat) (h1 : a ≤ b) (h2 : b ≤ l.length) (W : World) :
    (Instr.slice 9 (.string ⟨l.toArray⟩) (some (.int .i64 a)) (some (.int .i64 b)) none).run Tryz.prog W = .ok (.string ⟨((l.take b).drop a).toArray⟩) W := by
  rw [run_slice_string W 9 _ .i64 .i64 _ _ Tryz.underlying9 (by omega) (by omega) (by show (b : Int) ≤ l.length; omega)]
  rw [show (a : Int).toNat = a by omega, show (b : Int).toNat = b by omega, ext_of]
theorem cut_from (l : List UInt8) (x : Int) (a : Nat) (hx : x = a) (h1 : a ≤ l.length) (W : World) :
    (Instr.slice 9 (.string ⟨l.toArray⟩) (some (.int .i64 x)) none none).run Tryz.prog W = .ok (.string ⟨(l.drop a).toArray⟩) W := by
  subst hx
  have hs : (ByteArray.mk l.toArray).size = l.length := List.size_toArray
  rw [run_slice_string_l W 9 _ Tryz.underlying9 .i64 _ (by omega) (by rw [hs]; omega), hs]
  rw [show (a : Int).toNat = a by omega, ext_of, List.take_length]
theorem cut_to (l : List UInt8) (b : Nat) (h1 : b ≤ l.length) (W : World) :
    (Instr.slice 9 (.string ⟨l.toArray⟩) none (some (.int .i64 b)) none).run Tryz.prog W = .ok (.string ⟨(l.take b).toArray⟩) W := by
  have hs : (ByteArray.mk l.toArray).size = l.length := List.size_toArray
  rw [run_slice_string_h W 9 _ Tryz.underlying9 .i64 _ (by omega) (by rw [hs]; omega)]
  rw [show (b : Int).toNat = b by omega, ext_of, List.drop_zero]
theorem sV_eq {a b : B} : sV a = sV b ↔ a = b := by
  constructor
  · intro h; injection h with h; injection h with h; simpa using h
  · rintro rfl; rfl
set_option maxRecDepth 100000 in
theorem isSign_any (c : UInt8) (w : World) : Calls Tryz.prog 64 #[.int .u8 c.toNat] w fun e w' => e = .returned (.bool (isS c)) ∧ w' = w := by
  have HK := Lib.hid (show isS c = (decide (32 < (c.toNat : Int)) && decide ((c.toNat : Int) ≤ 126)) by unfold isS; rw [← Bool.decide_and]; exact decide_eq_decide.2 (by omega))
  by_cases h : 32 < (c.toNat : Int)
  · go_enter Tryz.func64, Tryz.ntmps64
    go_wp2
    go_ret
    exact ⟨eb_ret (by rw [HK.out, decide_eq_true h, Bool.true_and]), rfl⟩
  · go_enter Tryz.func64, Tryz.ntmps64
    go_wp2
    go_ret
    exact ⟨eb_ret (by rw [HK.out, show decide (32 < (c.toNat : Int)) = false by simpa using h, Bool.false_and]), rfl⟩
/-- does a text begin so -/
def beg (p s : B) : Bool := decide (s.take p.length = p)
theorem ba_eq (a b : B) : (decide ((⟨a.toArray⟩ : ByteArray) = ⟨b.toArray⟩)) = decide (a = b) := by
  refine decide_eq_decide.2 ⟨fun h => ?_, fun h => by rw [h]⟩
  injection h with h; simpa using h
set_option maxRecDepth 100000 in
theorem hasp_any (s p : B) (w : World) (hs : s.length ≤ maxLen) (hp : p.length ≤ maxLen) : Calls Tryz.prog 126 #[sV s, sV p] w fun e w' => e = .returned (.bool (beg p s)) ∧ w' = w := by
  unfold maxLen at hs hp
  by_cases h : (p.length : Int) ≤ s.length
  · have hc := cut_to s p.length (by omega)
    have hsz : (ByteArray.mk p.toArray).size = p.length := List.size_toArray
    have hss : (ByteArray.mk s.toArray).size = s.length := List.size_toArray
    go_enter Tryz.func126, Tryz.ntmps126
    go_wp2
    go_ret
    exact ⟨eb_ret (Bool.eq_iff_iff.2 (by simp [beg])), rfl⟩
  · have hl : ¬ s.take p.length = p := fun e => by have := congrArg List.length e; simp at this; omega
    have hsz : (ByteArray.mk p.toArray).size = p.length := List.size_toArray
    have hss : (ByteArray.mk s.toArray).size = s.length := List.size_toArray
    go_enter Tryz.func126, Tryz.ntmps126
    go_wp2
    go_ret
    exact ⟨by simp [beg, hl], rfl⟩
set_option maxRecDepth 100000 in
theorem hasPrefix_any (s p : B) (w : World) (hs : s.length ≤ maxLen) (hp : p.length ≤ maxLen) : Calls Tryz.prog 111 #[sV s, sV p] w fun e w' => e = .returned (.bool (beg p s)) ∧ w' = w := by
  go_enter Tryz.func111, Tryz.ntmps111
  go_wp2_with fail
  refine (hasp_any s p w hs hp).mono ?_
  rintro e x ⟨rfl, rfl⟩
  go_wp2
  go_ret
  exact ⟨rfl, rfl⟩
/-- a text behind its beginning -/
def cpS (p s : B) : B := if beg p s = true then s.drop p.length else s
theorem beg_le {p s : B} (h : beg p s = true) : p.length ≤ s.length := by
  unfold beg at h
  have := congrArg List.length (of_decide_eq_true h)
  simp at this; omega
set_option maxRecDepth 100000 in
theorem cutp_any (s p : B) (w : World) (hs : s.length ≤ maxLen) (hp : p.length ≤ maxLen) : Calls Tryz.prog 109 #[sV s, sV p] w fun e w' => e = .returned (.tuple #[sV (cpS p s), .bool (beg p s)]) ∧ w' = w := by
  have hsz : (ByteArray.mk p.toArray).size = p.length := List.size_toArray
  cases hb : beg p s with
  | true =>
    have HC := Lib.hid (show cpS p s = s.drop p.length by unfold cpS; rw [if_pos hb])
    have hc := cut_from s (p.length : Int) p.length rfl (beg_le hb)
    go_enter Tryz.func109, Tryz.ntmps109
    go_wp2_with fail
    refine (hasp_any s p w hs hp).mono ?_
    rintro e x ⟨rfl, rfl⟩
    rw [hb]
    clear hb
    unfold maxLen at hs hp
    go_wp2
    go_ret2
    exact ⟨by rw [HC.out]; rfl, rfl⟩
  | false =>
    have HC := Lib.hid (show cpS p s = s by unfold cpS; rw [if_neg (by rw [hb]; decide)])
    go_enter Tryz.func109, Tryz.ntmps109
    go_wp2_with fail
    refine (hasp_any s p w hs hp).mono ?_
    rintro e x ⟨rfl, rfl⟩
    rw [hb]
    clear hb
    go_wp2
    go_ret2
    exact ⟨by rw [HC.out]; rfl, rfl⟩
set_option maxRecDepth 100000 in
theorem cutPrefix_any (s p : B) (w : World) (hs : s.length ≤ maxLen) (hp : p.length ≤ maxLen) : Calls Tryz.prog 84 #[sV s, sV p] w fun e w' => e = .returned (.tuple #[sV (cpS p s), .bool (beg p s)]) ∧ w' = w := by
  go_enter Tryz.func84, Tryz.ntmps84
  go_wp2_with fail
  refine (cutp_any s p w hs hp).mono ?_
  rintro e x ⟨rfl, rfl⟩
  go_wp2
  go_ret2
  exact ⟨rfl, rfl⟩
theorem drop_cons {l : B} {i : Nat} {c : UInt8} (h : l[i]? = some c) : l.drop i = c :: l.drop (i + 1) := by
  obtain ⟨hi, rfl⟩ := List.getElem?_eq_some_iff.1 h
  exact List.drop_eq_getElem_cons hi
theorem on_some {l : B} {i : Nat} {d : UInt8} (h : l[i]? = some d) : on (l.drop i) = decide (¬ d.toNat = 10) := by rw [drop_cons h]; rfl
theorem on_none {l : B} {i : Nat} (h : l.length ≤ i) : on (l.drop i) = false := by rw [List.drop_eq_nil_of_le h]; rfl
set_option maxRecDepth 100000 in
set_option maxHeartbeats 1000000 in
theorem isPlain_any (v : Value) (l : B) (i : Nat) (c : UInt8) (w : World) (hR : BRd v l w) (hc : l[i]? = some c) (hl : l.length ≤ maxLen) : Calls Tryz.prog 51 #[v, iV i] w fun e w' => e = .returned (.bool (pln c (l.drop (i + 1)))) ∧ w' = w := by
  unfold maxLen at hl
  have hi := (List.getElem?_eq_some_iff.1 hc).1
  obtain ⟨g, o, cp, hv, hcp, c0⟩ := hR.at hc
  have HR := Lib.hid hR
  clear hR
  subst hv
  have hiI : (i : Int) < l.length := by omega
  by_cases h1 : isB c = true
  · have HP := Lib.hid (show pln c (l.drop (i + 1)) = on (l.drop (i + 1)) by unfold pln; rw [if_pos h1])
    have hb : (c.toNat : Int) = 32 ∨ (c.toNat : Int) = 9 := by unfold isB at h1; have := of_decide_eq_true h1; omega
    by_cases h2 : (i : Int) + 1 < l.length
    · obtain ⟨d, hd⟩ : ∃ d, l[i + 1]? = some d := ⟨_, List.getElem?_eq_getElem (by omega)⟩
      obtain ⟨g2, o2, cp2, hv2, _, c1⟩ := HR.out.at hd
      cases hv2
      have HO := Lib.hid (HP.out.trans (on_some hd))
      clear HP hd h1 HR
      rcases hb with h | h
      · rw [h] at c0
        go_enter Tryz.func51, Tryz.ntmps51
        go_wp2
        go_ret
        exact ⟨eb_ret (by rw [HO.out]; exact Bool.eq_iff_iff.2 (by simp; omega)), rfl⟩
      · rw [h] at c0
        go_enter Tryz.func51, Tryz.ntmps51
        go_wp2
        go_ret
        exact ⟨eb_ret (by rw [HO.out]; exact Bool.eq_iff_iff.2 (by simp; omega)), rfl⟩
    · have HO := Lib.hid (HP.out.trans (on_none (by omega)))
      clear HP h1 HR
      rcases hb with h | h
      · rw [h] at c0
        go_enter Tryz.func51, Tryz.ntmps51
        go_wp2
        go_ret
        exact ⟨eb_ret (by rw [HO.out]), rfl⟩
      · rw [h] at c0
        go_enter Tryz.func51, Tryz.ntmps51
        go_wp2
        go_ret
        exact ⟨eb_ret (by rw [HO.out]), rfl⟩
  · have HP := Lib.hid (show pln c (l.drop (i + 1)) = (isS c && decide (¬ c.toNat = 61)) by unfold pln; rw [if_neg h1])
    have b1 : ¬ (c.toNat : Int) = 32 := fun e => h1 (by unfold isB; exact decide_eq_true (by omega))
    have b2 : ¬ (c.toNat : Int) = 9 := fun e => h1 (by unfold isB; exact decide_eq_true (by omega))
    clear h1 HR
    by_cases h3 : (c.toNat : Int) = 61
    · rw [h3] at c0
      go_enter Tryz.func51, Tryz.ntmps51
      go_wp2
      go_ret
      exact ⟨eb_ret (by rw [HP.out]; exact (Bool.and_eq_false_iff.2 (Or.inr (decide_eq_false (by omega)))).symm), rfl⟩
    · go_enter Tryz.func51, Tryz.ntmps51
      go_wp2_with fail
      refine (isSign_any c w).mono ?_
      rintro e x ⟨rfl, rfl⟩
      go_wp2
      go_ret
      exact ⟨eb_ret (by rw [HP.out, decide_eq_true (show ¬ c.toNat = 61 by omega), Bool.and_true]), rfl⟩
end Go.Proofs.YtgpocnnolieijaaGreatDoor.Qp
/- What package qp makes of a byte. -/
set_option linter.unusedSimpArgs false
set_option linter.unusedVariables false
namespace Go.Proofs.YtgpocnnolieijaaGreatDoor.Qp
open Go.ChangeShapes Go.WideShapes Go.ChangeAt Go.RowKit
theorem and15 (c : UInt8) : bits BinOp.and IntKind.u8 (c.toNat : Int) 15 = ((c.toNat % 16 : Nat) : Int) := by
  have h : ∀ n : Nat, n < 256 → bits BinOp.and IntKind.u8 (n : Int) 15 = ((n % 16 : Nat) : Int) := by decide +kernel
  exact h _ (by have := c.toNat_lt; omega)
theorem hx_at (n : Nat) (h : n < (ByteArray.mk #[48, 49, 50, 51, 52, 53, 54, 55, 56, 57, 65, 66, 67, 68, 69, 70]).size) : (ByteArray.mk #[48, 49, 50, 51, 52, 53, 54, 55, 56, 57, 65, 66, 67, 68, 69, 70])[n]'h = hx n := by
  have h' : n < digS.length := h
  refine byte_at digS n (hx n) ?_ h
  unfold hx
  rw [List.getD_eq_getElem?_getD, List.getElem?_eq_getElem h']; rfl
set_option maxRecDepth 100000 in
set_option maxHeartbeats 1000000 in
theorem coded_any (v : Value) (l : B) (i : Nat) (c : UInt8) (w : World) (hR : BRd v l w) (hc : l[i]? = some c) (hl : l.length ≤ maxLen) : Calls Tryz.prog 38 #[v, iV i] w fun e w' => ∃ xv, e = .returned xv ∧ BRd xv (cod c (l.drop (i + 1))) w' ∧ Kept w w' ∧ ∀ r, r < w.heap.size → v.ownBlock ≠ some r → xv.ownBlock ≠ some r := by
  have HPl := Lib.hid (isPlain_any v l i c w hR hc hl)
  have hi := (List.getElem?_eq_some_iff.1 hc).1
  obtain ⟨g, o, cp, hv, hcp, c0⟩ := hR.at hc
  have HR := Lib.hid hR
  clear hR
  subst hv
  cases hp : pln c (l.drop (i + 1)) with
  | true =>
    have HC := Lib.hid (show cod c (l.drop (i + 1)) = (l.take (i + 1)).drop i by
      have := drop_cons hc
      unfold cod
      rw [if_pos hp, List.drop_take, this]
      simp)
    have HS := Lib.hid (HR.out.sub i (i + 1) (by omega) (by omega))
    rw [hp] at HPl
    clear hp
    unfold maxLen at hl
    go_enter Tryz.func38, Tryz.ntmps38
    go_wp2_with fail
    refine HPl.out.mono ?_
    rintro e x ⟨rfl, rfl⟩
    go_wp2
    go_ret
    refine ⟨_, rfl, ?_, Kept.refl _, fun r _ h => h⟩
    rw [HC.out]
    have := HS.out
    rwa [show i + 1 - i = 1 by omega] at this
  | false =>
    have HC := Lib.hid (show cod c (l.drop (i + 1)) = quo c by unfold cod; rw [hp]; rfl)
    rw [hp] at HPl
    clear hp
    unfold maxLen at hl
    have hiI : (i : Int) < l.length := by omega
    have q1 : bits BinOp.and IntKind.u8 (c.toNat : Int) 15 = ((c.toNat % 16 : Nat) : Int) := and15 c
    have q2 : (c.toNat : Int) / 16 = ((c.toNat / 16 : Nat) : Int) := by omega
    have d1 := Lib.hid (hx_at (c.toNat / 16))
    have d2 := Lib.hid (hx_at (c.toNat % 16))
    have e1 : c.toNat / 16 < 16 := u8_half c
    have e2 : c.toNat % 16 < 16 := Nat.mod_lt _ (by decide)
    have HC := Lib.hid (HC.out.trans (show quo c = [61, hx (c.toNat / 16), hx (c.toNat % 16)] from rfl))
    generalize c.toNat / 16 = q at *
    generalize c.toNat % 16 = r at *
    have i1 : (q : Int) < 16 := by omega
    have i2 : (r : Int) < 16 := by omega
    go_enter Tryz.func38, Tryz.ntmps38
    go_wp2_with fail
    refine HPl.out.mono ?_
    rintro e x ⟨rfl, rfl⟩
    go_wp2
    go_region
    simp only [d1.out, d2.out]
    have hB := brd_new x [61, hx q, hx r] 5 #[Value.int IntKind.u8 61, Value.int IntKind.u8 (hx q).toNat, Value.int IntKind.u8 (hx r).toNat] rfl 3 (Nat.le_refl 3) (0, 0)
    have hK := (Kept.refl x).alloc (.cells #[Value.int IntKind.u8 61, Value.int IntKind.u8 (hx q).toNat, Value.int IntKind.u8 (hx r).toNat] 5)
    generalize x.alloc (.cells #[Value.int IntKind.u8 61, Value.int IntKind.u8 (hx q).toNat, Value.int IntKind.u8 (hx r).toNat] 5) = y at *
    have HB := Lib.hid (hB.kept (Kept.refl y).drew)
    have HK := Lib.hid hK.drew
    clear hB hK
    go_wp2
    go_ret
    exact ⟨_, rfl, by rw [HC.out]; exact HB.out, HK.out, fun r hr _ e => by simp [Value.ownBlock] at e; omega⟩
end Go.Proofs.YtgpocnnolieijaaGreatDoor.Qp
/- Package qp's digits. -/
set_option linter.unusedSimpArgs false
set_option linter.unusedVariables false
namespace Go.Proofs.YtgpocnnolieijaaGreatDoor.Qp
open Go.ChangeShapes Go.WideShapes Go.ChangeAt Go.RowKit
/-- a digit's great letter -/
def up (c : UInt8) : UInt8 := if 97 ≤ c.toNat ∧ c.toNat ≤ 102 then UInt8.ofNat (c.toNat - 32) else c
theorem up_yes : ∀ j, j < 16 → ∀ c, hx j = up c → dg c = some j := by
  have h : ∀ j : Fin 16, ∀ n : Fin 256, hx j.1 = up (UInt8.ofNat n.1) → dg (UInt8.ofNat n.1) = some j.1 := by decide +kernel
  intro j hj c
  have := h ⟨j, hj⟩ ⟨c.toNat, by have := c.toNat_lt; omega⟩
  simpa using this
theorem up_no : ∀ c, (∀ j, j < 16 → hx j ≠ up c) → dg c = none := by
  have h : ∀ n : Fin 256, (∀ j : Fin 16, hx j.1 ≠ up (UInt8.ofNat n.1)) → dg (UInt8.ofNat n.1) = none := by decide +kernel
  intro c hc
  have := h ⟨c.toNat, by have := c.toNat_lt; omega⟩ (fun j => by simpa using hc j.1 j.2)
  simpa using this
/-- what digits are, behind others -/
def vl : Nat → B → Option Nat
  | n, [] => some n
  | n, c :: r => (dg c).bind fun d => vl (16 * n + d) r
/-- two digits' byte -/
def pr (s : B) : Option UInt8 := match s with
  | a :: b :: _ => (dg a).bind fun x => (dg b).map fun y => UInt8.ofNat (16 * x + y)
  | _ => none
theorem pr_vl {a b : UInt8} {r : B} : pr (a :: b :: r) = (vl 0 [a, b]).map UInt8.ofNat := by
  show ((dg a).bind fun x => (dg b).map fun y => UInt8.ofNat (16 * x + y)) = Option.map UInt8.ofNat ((dg a).bind fun d => (dg b).bind fun d_1 => some (16 * (16 * 0 + d) + d_1))
  cases dg a with
  | none => rfl
  | some x =>
    cases dg b with
    | none => rfl
    | some y => simp only [Option.bind_some, Option.map_some, Nat.mul_zero, Nat.zero_add]
theorem u8_same {a b : UInt8} (h : (a.toNat : Int) = b.toNat) : a = b := UInt8.toNat_inj.1 (by omega)
theorem vl_cons (n : Nat) (c : UInt8) (r : B) : vl n (c :: r) = (dg c).bind fun d => vl (16 * n + d) r := rfl
def prV (s : B) : Value := match pr s with
  | some x => .tuple #[.int .u8 x.toNat, .bool true]
  | none => .tuple #[.int .u8 0, .bool false]
set_option maxRecDepth 100000 in
set_option maxHeartbeats 4000000 in
theorem pair_any (s : B) (w : World) (hl : s.length ≤ 1000000000) : Calls Tryz.prog 110 #[sV s] w fun e w' => e = .returned (prV s) ∧ Kept w w' := by
  have hss : (ByteArray.mk s.toArray).size = s.length := List.size_toArray
  by_cases h2 : s.length < 2
  · have HV := Lib.hid (show prV s = .tuple #[.int .u8 0, .bool false] by
      match s, h2 with
      | [], _ => rfl
      | [a], _ => rfl)
    have h2I : (s.length : Int) < 2 := by omega
    go_enter Tryz.func110, Tryz.ntmps110
    go_wp2
    go_ret2
    exact ⟨by rw [HV.out]; rfl, Kept.refl _⟩
  · have hs := cut_to s 2 (by omega)
    obtain ⟨a, b, r, rfl⟩ : ∃ a b r, s = a :: b :: r := by
      match s, h2 with
      | a :: b :: r, _ => exact ⟨a, b, r, rfl⟩
      | [], h => simp at h
      | [a], h => simp at h
    have h2I : ¬ (((a :: b :: r).length : Nat) : Int) < 2 := by omega
    have HV := Lib.hid (show prV (a :: b :: r) = (match (vl 0 [a, b]).map UInt8.ofNat with | some x => .tuple #[.int .u8 x.toNat, .bool true] | none => .tuple #[.int .u8 0, .bool false]) by unfold prV; rw [pr_vl])
    have hs2 : ∀ W, (Instr.slice 9 (.string ⟨(a :: b :: r).toArray⟩) none (some (.int .i64 2)) none).run Tryz.prog W = .ok (sV [a, b]) W := fun W => hs W
    obtain ⟨cc, y, hcv, ky, hy⟩ := to_bytes [a, b] w
    have KY := Lib.hid ky
    have HY := Lib.hid hy
    clear hs hy ky
    generalize w.heap.size = kb at *
    generalize a :: b :: r = s at *
    go_enter Tryz.func110, Tryz.ntmps110
    go_wp2_with fail
    go_loopg [4, 15] 2 (fun g vn vi wr => ∃ i n : Nat, i + g = 2 ∧ (i = 0 ∧ n < 1 ∨ i = 1 ∧ n < 16 ∨ i = 2 ∧ n < 256) ∧ vi = .int .i64 i ∧ vn = .int .i64 n ∧ Hid (vl n ([a, b].drop i) = vl 0 [a, b]) ∧ wr = y)
    case atStart => exact ⟨0, 0, by omega, by omega, rfl, rfl, Lib.hid rfl, rfl⟩
    case round =>
      obtain ⟨i, n, hi, hn, rfl, rfl, hD, rfl⟩ := hrel
      cases gk with
      | succ g1 =>
        have hlt : i < 2 := by omega
        have hltI : (i : Int) < 2 := by omega
        obtain ⟨c, hc⟩ : ∃ c, [a, b][i]? = some c := ⟨_, List.getElem?_eq_getElem hlt⟩
        have HC := Lib.hid (hD.out.symm.trans (by rw [drop_cons hc, vl_cons]))
        obtain ⟨g, o, cp, hv', hcp, cell⟩ := HY.out.at hc
        cases hv'
        rw [Nat.zero_add] at cell
        have HU := Lib.hid (up_yes)
        have HN := Lib.hid (up_no c)
        by_cases hcl : 97 ≤ (c.toNat : Int)
        · by_cases hcu : (c.toNat : Int) ≤ 102
          · have hup : up c = UInt8.ofNat (c.toNat - 32) := by unfold up; rw [if_pos (by omega)]
            have hsub : ((c.toNat : Int) - 32) = ((up c).toNat : Int) := by rw [hup, UInt8.toNat_ofNat']; omega
            clear hup hc
            go_wp2_with fail
            go_step3
            go_wp2_with fail
            go_step3
            go_wp2_with fail
            go_loopg [4, 28] 16 (fun g vn vj wj => ∃ j : Nat, j + g = 16 ∧ vj = .int .i64 j ∧ vn = .int .i64 n ∧ Hid (∀ m, m < j → hx m ≠ up c) ∧ wj = wr)
            case atStart => exact ⟨0, by omega, rfl, rfl, Lib.hid (fun m hm => by omega), rfl⟩
            case round =>
              obtain ⟨j, hj, rfl, rfl, hne, rfl⟩ := hrel
              cases gk with
              | succ g2 =>
                have hjI : (j : Int) < 16 := by omega
                have d1 := hx_at j
                by_cases heq : ((hx j).toNat : Int) = ((up c).toNat : Int)
                · have HD := Lib.hid (HC.out.trans (by rw [HU.out j (by omega) c (u8_same heq), Option.bind_some]))
                  clear HC HV
                  have hnI : (n : Int) < 16 := by omega
                  have m1 : 16 * n + j < 256 := by omega
                  go_wp2_with fail
                  rw [Exit.noGoto_normal]
                  go_wp2_with fail
                  go_roundg g1
                  case measure => omega
                  case rel => exact ⟨i + 1, 16 * n + j, by omega, by omega, by go_num, by go_num, Lib.hid HD.out.symm, rfl⟩
                · go_wp2_with fail
                  go_roundg g2
                  case measure => omega
                  case rel => exact ⟨j + 1, by omega, by go_num, rfl, Lib.hid (fun m hm e => by
                    by_cases hmj : m < j
                    · exact hne.out m hmj e
                    · obtain rfl : m = j := by omega
                      exact heq (by rw [e])), rfl⟩
              | zero =>
                have hjI : ¬ (j : Int) < 16 := by omega
                have HD := Lib.hid (HC.out.trans (by rw [HN.out (fun m hm => hne.out m (by omega)), Option.bind_none]))
                have HF := Lib.hid (HV.out.trans (by rw [HD.out]; rfl : _ = Value.tuple #[.int .u8 0, .bool false]))
                clear HC HV HD
                go_wp2
                try rw [Exit.noGoto_ret]
                go_ret2
                exact ⟨by rw [HF.out]; rfl, KY.out⟩
          · have hup : (c.toNat : Int) = ((up c).toNat : Int) := by unfold up; rw [if_neg (by omega)]
            rw [hup] at cell hcl hcu
            clear hup hc
            go_wp2_with fail
            go_step3
            go_wp2_with fail
            go_step3
            go_wp2_with fail
            go_loopg [4, 28] 16 (fun g vn vj wj => ∃ j : Nat, j + g = 16 ∧ vj = .int .i64 j ∧ vn = .int .i64 n ∧ Hid (∀ m, m < j → hx m ≠ up c) ∧ wj = wr)
            case atStart => exact ⟨0, by omega, rfl, rfl, Lib.hid (fun m hm => by omega), rfl⟩
            case round =>
              obtain ⟨j, hj, rfl, rfl, hne, rfl⟩ := hrel
              cases gk with
              | succ g2 =>
                have hjI : (j : Int) < 16 := by omega
                have d1 := hx_at j
                by_cases heq : ((hx j).toNat : Int) = ((up c).toNat : Int)
                · have HD := Lib.hid (HC.out.trans (by rw [HU.out j (by omega) c (u8_same heq), Option.bind_some]))
                  clear HC HV
                  have hnI : (n : Int) < 16 := by omega
                  have m1 : 16 * n + j < 256 := by omega
                  go_wp2_with fail
                  rw [Exit.noGoto_normal]
                  go_wp2_with fail
                  go_roundg g1
                  case measure => omega
                  case rel => exact ⟨i + 1, 16 * n + j, by omega, by omega, by go_num, by go_num, Lib.hid HD.out.symm, rfl⟩
                · go_wp2_with fail
                  go_roundg g2
                  case measure => omega
                  case rel => exact ⟨j + 1, by omega, by go_num, rfl, Lib.hid (fun m hm e => by
                    by_cases hmj : m < j
                    · exact hne.out m hmj e
                    · obtain rfl : m = j := by omega
                      exact heq (by rw [e])), rfl⟩
              | zero =>
                have hjI : ¬ (j : Int) < 16 := by omega
                have HD := Lib.hid (HC.out.trans (by rw [HN.out (fun m hm => hne.out m (by omega)), Option.bind_none]))
                have HF := Lib.hid (HV.out.trans (by rw [HD.out]; rfl : _ = Value.tuple #[.int .u8 0, .bool false]))
                clear HC HV HD
                go_wp2
                try rw [Exit.noGoto_ret]
                go_ret2
                exact ⟨by rw [HF.out]; rfl, KY.out⟩
        · have hup : (c.toNat : Int) = ((up c).toNat : Int) := by unfold up; rw [if_neg (by omega)]
          rw [hup] at cell hcl
          clear hup hc
          go_wp2_with fail
          go_step3
          go_wp2_with fail
          go_step3
          go_wp2_with fail
          go_loopg [4, 28] 16 (fun g vn vj wj => ∃ j : Nat, j + g = 16 ∧ vj = .int .i64 j ∧ vn = .int .i64 n ∧ Hid (∀ m, m < j → hx m ≠ up c) ∧ wj = wr)
          case atStart => exact ⟨0, by omega, rfl, rfl, Lib.hid (fun m hm => by omega), rfl⟩
          case round =>
            obtain ⟨j, hj, rfl, rfl, hne, rfl⟩ := hrel
            cases gk with
            | succ g2 =>
              have hjI : (j : Int) < 16 := by omega
              have d1 := hx_at j
              by_cases heq : ((hx j).toNat : Int) = ((up c).toNat : Int)
              · have HD := Lib.hid (HC.out.trans (by rw [HU.out j (by omega) c (u8_same heq), Option.bind_some]))
                clear HC HV
                have hnI : (n : Int) < 16 := by omega
                have m1 : 16 * n + j < 256 := by omega
                go_wp2_with fail
                rw [Exit.noGoto_normal]
                go_wp2_with fail
                go_roundg g1
                case measure => omega
                case rel => exact ⟨i + 1, 16 * n + j, by omega, by omega, by go_num, by go_num, Lib.hid HD.out.symm, rfl⟩
              · go_wp2_with fail
                go_roundg g2
                case measure => omega
                case rel => exact ⟨j + 1, by omega, by go_num, rfl, Lib.hid (fun m hm e => by
                  by_cases hmj : m < j
                  · exact hne.out m hmj e
                  · obtain rfl : m = j := by omega
                    exact heq (by rw [e])), rfl⟩
            | zero =>
              have hjI : ¬ (j : Int) < 16 := by omega
              have HD := Lib.hid (HC.out.trans (by rw [HN.out (fun m hm => hne.out m (by omega)), Option.bind_none]))
              have HF := Lib.hid (HV.out.trans (by rw [HD.out]; rfl : _ = Value.tuple #[.int .u8 0, .bool false]))
              clear HC HV HD
              go_wp2
              try rw [Exit.noGoto_ret]
              go_ret2
              exact ⟨by rw [HF.out]; rfl, KY.out⟩
      | zero =>
        have hltI : ¬ (i : Int) < 2 := by omega
        obtain rfl : i = 2 := by omega
        have HF := Lib.hid (HV.out.trans (by rw [← hD.out]; rfl : _ = Value.tuple #[.int .u8 (UInt8.ofNat n).toNat, .bool true]))
        have hw := Lib.hid (show ((UInt8.ofNat n).toNat : Int) = (n : Int) by rw [UInt8.toNat_ofNat']; omega)
        clear HV hD
        go_wp2
        go_ret2
        exact ⟨by rw [HF.out, hw.out]; rfl, KY.out⟩
end Go.Proofs.YtgpocnnolieijaaGreatDoor.Qp
/- What a text begins with, decoded. -/
set_option linter.unusedSimpArgs false
set_option linter.unusedVariables false
namespace Go.Proofs.YtgpocnnolieijaaGreatDoor.Qp
open Go.ChangeShapes Go.WideShapes Go.ChangeAt Go.RowKit
/-- first's answer -/
def fsV (s : B) : Value := match fst s with
  | some (x, k) => .tuple #[.int .u8 x.toNat, .int .i64 k]
  | none => .tuple #[.int .u8 0, .int .i64 0]
theorem fst_eq {c : UInt8} {r : B} (h : c.toNat = 61) : fst (c :: r) = (pr r).map fun x => (x, 3) := by
  unfold fst
  simp only
  rw [if_pos h]
  match r with
  | [] => rfl
  | [a] => rfl
  | a :: b :: r =>
    show ((dg a).bind fun x => (dg b).map fun y => (UInt8.ofNat (16 * x + y), 3)) = Option.map (fun x => (x, 3)) ((dg a).bind fun x => (dg b).map fun y => UInt8.ofNat (16 * x + y))
    cases dg a with
    | none => rfl
    | some x => cases dg b <;> rfl
theorem fst_cr {c : UInt8} {r : B} (h : c.toNat = 13) : fst (c :: r) = if beg [13, 10] (c :: r) = true then some (10, 2) else none := by
  obtain rfl : c = 13 := UInt8.toNat_inj.1 (by rw [h]; rfl)
  unfold fst
  simp only
  rw [if_neg (by decide), if_pos (by rfl)]
  match r with
  | [] => rfl
  | d :: r =>
    unfold beg
    simp only [List.length_cons, List.length_nil, Nat.zero_add, Nat.reduceAdd, List.take_succ_cons, List.take_zero, List.cons.injEq, true_and, and_true, decide_eq_true_eq]
    by_cases hd : d.toNat = 10
    · rw [if_pos hd, if_pos (UInt8.toNat_inj.1 (by rw [hd]; rfl))]
    · rw [if_neg hd, if_neg (fun e => hd (by rw [e]; rfl))]
theorem fst_lit {c : UInt8} {r : B} (h1 : ¬ c.toNat = 61) (h2 : ¬ c.toNat = 13) : fst (c :: r) = if isB c = true ∨ isS c = true then some (c, 1) else none := by
  unfold fst
  simp only
  rw [if_neg h1, if_neg h2]
theorem beg_ne {c : UInt8} {r : B} (h : ¬ c.toNat = 13) : beg [13, 10] (c :: r) = false := by
  unfold beg
  refine decide_eq_false (fun e => ?_)
  simp only [List.length_cons, List.length_nil, Nat.zero_add, Nat.reduceAdd, List.take_succ_cons] at e
  injection e with e _
  exact h (by rw [e]; rfl)
theorem at_0 (c : UInt8) (r : B) (h : 0 < (ByteArray.mk (c :: r).toArray).size) : (ByteArray.mk (c :: r).toArray)[0]'h = c := byte_at (c :: r) 0 c rfl h
set_option maxRecDepth 100000 in
set_option maxHeartbeats 4000000 in
theorem first_any (c : UInt8) (r : B) (w : World) (hl : r.length ≤ 100000000) : Calls Tryz.prog 85 #[sV (c :: r)] w fun e w' => e = .returned (fsV (c :: r)) ∧ Kept w w' := by
  have hss : (ByteArray.mk (c :: r).toArray).size = r.length + 1 := List.size_toArray
  have h0 := at_0 c r
  have hs0 : (0 : Int) < ((r.length + 1 : Nat) : Int) := by omega
  by_cases h1 : (c.toNat : Int) = 61
  · have hc := cut_from (c :: r) 1 1 rfl (by simp)
    rw [List.drop_succ_cons, List.drop_zero] at hc
    have HP := Lib.hid (pair_any r w (by omega))
    have hf := fst_eq (r := r) (show c.toNat = 61 by omega)
    cases hp : pr r with
    | none =>
      have HV := Lib.hid (show fsV (c :: r) = .tuple #[.int .u8 0, .int .i64 0] by unfold fsV; rw [hf, hp]; rfl)
      rw [show prV r = .tuple #[.int .u8 0, .bool false] by unfold prV; rw [hp]] at HP
      clear hf hp
      generalize c :: r = s at *
      go_enter Tryz.func85, Tryz.ntmps85
      go_wp2_with fail
      refine HP.out.mono ?_
      rintro e x ⟨rfl, k⟩
      have K := Lib.hid k
      clear k HP
      go_wp2_with fail
      go_ret2
      exact ⟨by rw [HV.out]; rfl, K.out⟩
    | some y =>
      have HV := Lib.hid (show fsV (c :: r) = .tuple #[.int .u8 y.toNat, .int .i64 3] by unfold fsV; rw [hf, hp]; rfl)
      rw [show prV r = .tuple #[.int .u8 y.toNat, .bool true] by unfold prV; rw [hp]] at HP
      clear hf hp
      generalize c :: r = s at *
      go_enter Tryz.func85, Tryz.ntmps85
      go_wp2_with fail
      refine HP.out.mono ?_
      rintro e x ⟨rfl, k⟩
      have K := Lib.hid k
      clear k HP
      go_wp2_with fail
      go_ret2
      exact ⟨by rw [HV.out]; rfl, K.out⟩
  · have HB := Lib.hid (hasPrefix_any (c :: r) [13, 10] w (by unfold maxLen; simp; omega) (by decide))
    have HS := Lib.hid (isSign_any c w)
    by_cases h2 : (c.toNat : Int) = 13
    · have hf := fst_cr (r := r) (show c.toNat = 13 by omega)
      cases hb : beg [13, 10] (c :: r) with
      | true =>
        have HV := Lib.hid (show fsV (c :: r) = .tuple #[.int .u8 10, .int .i64 2] by unfold fsV; rw [hf, hb]; rfl)
        rw [hb] at HB
        clear hf hb
        generalize c :: r = s at *
        go_enter Tryz.func85, Tryz.ntmps85
        go_wp2_with fail
        refine HB.out.mono ?_
        rintro e x ⟨rfl, rfl⟩
        clear HB HS
        go_wp2_with fail
        go_ret2
        exact ⟨by rw [HV.out]; rfl, Kept.refl _⟩
      | false =>
        have HV := Lib.hid (show fsV (c :: r) = .tuple #[.int .u8 0, .int .i64 0] by unfold fsV; rw [hf, hb]; rfl)
        rw [hb] at HB
        rw [show isS c = false by unfold isS; exact decide_eq_false (by omega), h2] at HS
        clear hf hb
        generalize c :: r = s at *
        go_enter Tryz.func85, Tryz.ntmps85
        go_wp2_with fail
        refine HB.out.mono ?_
        rintro e x ⟨rfl, rfl⟩
        clear HB
        go_wp2_with fail
        refine HS.out.mono ?_
        rintro e x2 ⟨rfl, rfl⟩
        clear HS
        go_wp2_with fail
        go_ret2
        exact ⟨by rw [HV.out]; rfl, Kept.refl _⟩
    · have hf := fst_lit (r := r) (show ¬ c.toNat = 61 by omega) (show ¬ c.toNat = 13 by omega)
      rw [beg_ne (show ¬ c.toNat = 13 by omega)] at HB
      by_cases h3 : (c.toNat : Int) = 32
      · have HV := Lib.hid (show fsV (c :: r) = .tuple #[.int .u8 32, .int .i64 1] by unfold fsV; rw [hf, if_pos (Or.inl (by unfold isB; exact decide_eq_true (by omega))), ← h3]; rfl)
        clear hf HS
        generalize c :: r = s at *
        go_enter Tryz.func85, Tryz.ntmps85
        go_wp2_with fail
        refine HB.out.mono ?_
        rintro e x ⟨rfl, rfl⟩
        clear HB
        go_wp2_with fail
        go_ret2
        exact ⟨by rw [HV.out]; rfl, Kept.refl _⟩
      by_cases h4 : (c.toNat : Int) = 9
      · have HV := Lib.hid (show fsV (c :: r) = .tuple #[.int .u8 9, .int .i64 1] by unfold fsV; rw [hf, if_pos (Or.inl (by unfold isB; exact decide_eq_true (by omega))), ← h4]; rfl)
        clear hf HS
        generalize c :: r = s at *
        go_enter Tryz.func85, Tryz.ntmps85
        go_wp2_with fail
        refine HB.out.mono ?_
        rintro e x ⟨rfl, rfl⟩
        clear HB
        go_wp2_with fail
        go_ret2
        exact ⟨by rw [HV.out]; rfl, Kept.refl _⟩
      have b3 : ((c.toNat : Int) == 32) = false := beq_eq_false_iff_ne.2 h3
      have b4 : ((c.toNat : Int) == 9) = false := beq_eq_false_iff_ne.2 h4
      have hnb : isB c = false := by unfold isB; exact decide_eq_false (by omega)
      cases hs : isS c with
      | true =>
        have HV := Lib.hid (show fsV (c :: r) = .tuple #[.int .u8 c.toNat, .int .i64 1] by unfold fsV; rw [hf, if_pos (Or.inr hs)]; rfl)
        rw [hs] at HS
        clear hf hs hnb
        generalize c :: r = s at *
        go_enter Tryz.func85, Tryz.ntmps85
        go_wp2_with fail
        refine HB.out.mono ?_
        rintro e x ⟨rfl, rfl⟩
        clear HB
        go_wp2_with fail
        refine HS.out.mono ?_
        rintro e x2 ⟨rfl, rfl⟩
        clear HS
        go_wp2_with fail
        go_ret2
        exact ⟨by rw [HV.out]; rfl, Kept.refl _⟩
      | false =>
        have HV := Lib.hid (show fsV (c :: r) = .tuple #[.int .u8 0, .int .i64 0] by unfold fsV; rw [hf, if_neg (by rw [hs, hnb]; decide)])
        rw [hs] at HS
        clear hf hs hnb
        generalize c :: r = s at *
        go_enter Tryz.func85, Tryz.ntmps85
        go_wp2_with fail
        refine HB.out.mono ?_
        rintro e x ⟨rfl, rfl⟩
        clear HB
        go_wp2_with fail
        refine HS.out.mono ?_
        rintro e x2 ⟨rfl, rfl⟩
        clear HS
        go_wp2_with fail
        go_ret2
        exact ⟨by rw [HV.out]; rfl, Kept.refl _⟩
end Go.Proofs.YtgpocnnolieijaaGreatDoor.Qp
