/- What package qp makes of a byte. -/
import Derived.Test.YtkcalnmemjioaaaQpA
import Derived.RegionTactic
import Derived.ChangeAlike
set_option linter.unusedSimpArgs false
set_option linter.unusedVariables false
namespace Go.Proofs.Ytkcalnmemjioaaa
open Go.ChangeShapes Go.WideShapes Go.ChangeAt Go.RowKit
open Qp
theorem and15 (c : UInt8) : bits BinOp.and IntKind.u8 (c.toNat : Int) 15 = ((c.toNat % 16 : Nat) : Int) := by
  have h : ∀ n : Nat, n < 256 → bits BinOp.and IntKind.u8 (n : Int) 15 = ((n % 16 : Nat) : Int) := by decide +kernel
  exact h _ (by have := c.toNat_lt; omega)
theorem hx_at (n : Nat) (h : n < (ByteArray.mk #[48, 49, 50, 51, 52, 53, 54, 55, 56, 57, 65, 66, 67, 68, 69, 70]).size) : (ByteArray.mk #[48, 49, 50, 51, 52, 53, 54, 55, 56, 57, 65, 66, 67, 68, 69, 70])[n]'h = hx n := by
  have h' : n < digS.length := h
  refine byte_at digS n (hx n) ?_ h
  unfold hx
  rw [List.getD_eq_getElem?_getD, List.getElem?_eq_getElem h']; rfl
set_option maxRecDepth 100000 in
set_option maxHeartbeats 1000000 in
theorem coded_any (v : Value) (l : B) (i : Nat) (c : UInt8) (w : World) (hR : BRd v l w) (hc : l[i]? = some c) (hl : l.length ≤ maxLen) : Calls Try.prog 17 #[v, iV i] w fun e w' => ∃ xv, e = .returned xv ∧ BRd xv (cod c (l.drop (i + 1))) w' ∧ Kept w w' ∧ ∀ r, r < w.heap.size → v.ownBlock ≠ some r → xv.ownBlock ≠ some r := by
  have HPl := Lib.hid (isPlain_any v l i c w hR hc hl)
  have hi := (List.getElem?_eq_some_iff.1 hc).1
  obtain ⟨g, o, cp, hv, hcp, c0⟩ := hR.at hc
  have HR := Lib.hid hR
  clear hR
  subst hv
  cases hp : pln c (l.drop (i + 1)) with
  | true =>
    have HC := Lib.hid (show cod c (l.drop (i + 1)) = (l.take (i + 1)).drop i by
      have := drop_cons hc
      unfold cod
      rw [if_pos hp, List.drop_take, this]
      simp)
    have HS := Lib.hid (HR.out.sub i (i + 1) (by omega) (by omega))
    rw [hp] at HPl
    clear hp
    unfold maxLen at hl
    go_enter Try.func17, Try.ntmps17
    go_wp2_with fail
    refine HPl.out.mono ?_
    rintro e x ⟨rfl, rfl⟩
    go_wp2
    go_ret
    refine ⟨_, rfl, ?_, Kept.refl _, fun r _ h => h⟩
    rw [HC.out]
    have := HS.out
    rwa [show i + 1 - i = 1 by omega] at this
  | false =>
    have HC := Lib.hid (show cod c (l.drop (i + 1)) = quo c by unfold cod; rw [hp]; rfl)
    rw [hp] at HPl
    clear hp
    unfold maxLen at hl
    have hiI : (i : Int) < l.length := by omega
    have q1 : bits BinOp.and IntKind.u8 (c.toNat : Int) 15 = ((c.toNat % 16 : Nat) : Int) := and15 c
    have q2 : (c.toNat : Int) / 16 = ((c.toNat / 16 : Nat) : Int) := by omega
    have d1 := Lib.hid (hx_at (c.toNat / 16))
    have d2 := Lib.hid (hx_at (c.toNat % 16))
    have e1 : c.toNat / 16 < 16 := u8_half c
    have e2 : c.toNat % 16 < 16 := Nat.mod_lt _ (by decide)
    have HC := Lib.hid (HC.out.trans (show quo c = [61, hx (c.toNat / 16), hx (c.toNat % 16)] from rfl))
    generalize c.toNat / 16 = q at *
    generalize c.toNat % 16 = r at *
    have i1 : (q : Int) < 16 := by omega
    have i2 : (r : Int) < 16 := by omega
    go_enter Try.func17, Try.ntmps17
    go_wp2_with fail
    refine HPl.out.mono ?_
    rintro e x ⟨rfl, rfl⟩
    go_wp2
    go_region
    simp only [d1.out, d2.out]
    have hB := brd_new x [61, hx q, hx r] 5 #[Value.int IntKind.u8 61, Value.int IntKind.u8 (hx q).toNat, Value.int IntKind.u8 (hx r).toNat] rfl 3 (Nat.le_refl 3) (0, 0)
    have hK := (Kept.refl x).alloc (.cells #[Value.int IntKind.u8 61, Value.int IntKind.u8 (hx q).toNat, Value.int IntKind.u8 (hx r).toNat] 5)
    generalize x.alloc (.cells #[Value.int IntKind.u8 61, Value.int IntKind.u8 (hx q).toNat, Value.int IntKind.u8 (hx r).toNat] 5) = y at *
    have HB := Lib.hid (hB.kept (Kept.refl y).drew)
    have HK := Lib.hid hK.drew
    clear hB hK
    go_wp2
    go_ret
    exact ⟨_, rfl, by rw [HC.out]; exact HB.out, HK.out, fun r hr _ e => by simp [Value.ownBlock] at e; omega⟩
end Go.Proofs.Ytkcalnmemjioaaa
