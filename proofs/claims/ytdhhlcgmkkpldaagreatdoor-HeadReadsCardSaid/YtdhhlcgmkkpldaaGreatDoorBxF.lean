/- The four signs of one to three bytes. -/
import Derived.Test.YtdhhlcgmkkpldaaGreatDoorBxN
set_option linter.unusedSimpArgs false
set_option linter.unusedVariables false
namespace Go.Proofs.YtdhhlcgmkkpldaaGreatDoor
open Go.ChangeShapes Go.WideShapes Go.ChangeAt Go.RowKit
open Bx
theorem sg_at (n : Nat) (h : n < (ByteArray.mk #[65, 66, 67, 68, 69, 70, 71, 72, 73, 74, 75, 76, 77, 78, 79, 80, 81, 82, 83, 84, 85, 86, 87, 88, 89, 90, 97, 98, 99, 100, 101, 102, 103, 104, 105, 106, 107, 108, 109, 110, 111, 112, 113, 114, 115, 116, 117, 118, 119, 120, 121, 122, 48, 49, 50, 51, 52, 53, 54, 55, 56, 57, 43, 47]).size) : (ByteArray.mk #[65, 66, 67, 68, 69, 70, 71, 72, 73, 74, 75, 76, 77, 78, 79, 80, 81, 82, 83, 84, 85, 86, 87, 88, 89, 90, 97, 98, 99, 100, 101, 102, 103, 104, 105, 106, 107, 108, 109, 110, 111, 112, 113, 114, 115, 116, 117, 118, 119, 120, 121, 122, 48, 49, 50, 51, 52, 53, 54, 55, 56, 57, 43, 47])[n]'h = sg n := by
  have h' : n < sgS.length := h
  refine byte_at sgS n (sg n) ?_ h
  unfold sg
  rw [List.getD_eq_getElem?_getD, List.getElem?_eq_getElem h']; rfl
/-- what stands in four places -/
theorem four_is {l : B} {a b c : UInt8} {r : B} (hl : 1 ≤ l.length) (hl3 : l.length ≤ 3) (h : l ++ [0, 0] = a :: b :: c :: r) (L : B) (hL : L.length = 4)
    (hj : ∀ j, j < 4 → L[j]? = if l.length < j then some 61 else [sg (num a b c / 262144), sg (num a b c / 4096 % 64), sg (num a b c / 64 % 64), sg (num a b c % 64)][j]?) : L = raw l := by
  obtain ⟨x0, x1, x2, x3, rfl⟩ : ∃ x0 x1 x2 x3, L = [x0, x1, x2, x3] := by
    match L, hL with
    | [x0, x1, x2, x3], _ => exact ⟨_, _, _, _, rfl⟩
  have h0 := hj 0 (by decide)
  have h1 := hj 1 (by decide)
  have h2 := hj 2 (by decide)
  have h3 := hj 3 (by decide)
  match l, hl, hl3 with
  | [p], _, _ =>
    injection h with e1 h; injection h with e2 h; injection h with e3 h
    subst e1; subst e2; subst e3
    simp at h0 h1 h2 h3
    rw [h0, h1, h2, h3]; rfl
  | [p, q], _, _ =>
    injection h with e1 h; injection h with e2 h; injection h with e3 h
    subst e1; subst e2; subst e3
    simp at h0 h1 h2 h3
    rw [h0, h1, h2, h3]; rfl
  | [p, q, s], _, _ =>
    injection h with e1 h; injection h with e2 h; injection h with e3 h
    subst e1; subst e2; subst e3
    simp at h0 h1 h2 h3
    rw [h0, h1, h2, h3]; rfl
/-- a byte set anew in a block of bytes -/
theorem set_block {w : World} {M i : Nat} {L : B} (h : w.heap[M]? = some (.cells (byteCells L).toArray 5 (0, 0))) : (w.setCell ⟨M, i, none⟩ (.int .u8 61)).heap[M]? = some (.cells (byteCells (L.set i 61)).toArray 5 (0, 0)) := by
  rw [heap_setCell_same w M i _ _ _ h]
  simp [byteCells, List.map_set]
theorem block_cell {w : World} {M i : Nat} {L : B} (h : w.heap[M]? = some (.cells (byteCells L).toArray 5 (0, 0))) {x : UInt8} (hx : L[i]? = some x) : w.cell? ⟨M, i, none⟩ = some (.int .u8 x.toNat) := by
  simp [World.cell?, h, byteCells, hx]
theorem block_free {w : World} {M i : Nat} {L : B} (h : w.heap[M]? = some (.cells (byteCells L).toArray 5 (0, 0))) : w.frozen? ⟨M, i, none⟩ = false := by
  simp [World.frozen?, h]
theorem block_brd {w : World} {M : Nat} {L : B} {n : Nat} (h : w.heap[M]? = some (.cells (byteCells L).toArray 5 (0, 0))) (hn : L.length = n) : BRd (.slice (some ⟨M, 0, none⟩) n n) L w := by
  subst hn
  exact ⟨_, _, rfl, fun e => (by cases e), fun _ => ⟨_, _, rfl, Nat.le_refl _, fun i x hx => by rw [Nat.zero_add]; exact block_cell h hx⟩⟩
set_option maxRecDepth 100000 in
set_option maxHeartbeats 4000000 in
theorem four_any (g o : Nat) (l : B) (w : World) (hl : 1 ≤ l.length) (hl3 : l.length ≤ 3) (hR : BRd (.slice (some ⟨g, o, none⟩) l.length l.length) l w) :
    Calls Tryz.prog 72 #[.slice (some ⟨g, o, none⟩) l.length l.length] w fun e w' => ∃ xv, e = .returned xv ∧ BRd xv (raw l) w' ∧ Kept w w' := by
  have HR := Lib.hid hR
  have hne : l ≠ [] := by rintro rfl; simp at hl
  obtain ⟨a, b, c, r, hfull⟩ : ∃ a b c r, l ++ [0, 0] = a :: b :: c :: r := by
    match l, hl with
    | [a], _ => exact ⟨a, 0, 0, [], rfl⟩
    | [a, b], _ => exact ⟨a, b, 0, [0], rfl⟩
    | a :: b :: c :: r, _ => exact ⟨a, b, c, r ++ [0, 0], rfl⟩
  have HF := Lib.hid hfull
  have HL := Lib.hid (four_is hl hl3 hfull)
  clear hR hfull
  have kz := (Kept.refl w).alloc (.cells #[.int .u8 0, .int .u8 0] 5)
  have HKN := Lib.hid kz
  have hN := Lib.hid (brd_new w [0, 0] 5 #[.int .u8 0, .int .u8 0] rfl 2 (Nat.le_refl 2) (0, 0))
  have RN := Lib.hid (HR.out.kept kz)
  clear kz
  go_enter Tryz.func72, Tryz.ntmps72
  go_wp2_with (at_builtin; refine wpList_fullB rfl _ _ rfl g o _ l [0, 0] rfl RN.out rfl hN.out hne (by simp; omega) ?_)
  intro v1 x1 hO hk
  have K1 := Lib.hid (HKN.out.trans hk)
  rw [HF.out] at hO
  obtain ⟨h, o', cp, rfl, hcp, c0⟩ := hO.at (i := 0) rfl
  obtain ⟨_, _, _, e, _, c1⟩ := hO.at (i := 1) rfl
  cases e
  obtain ⟨_, _, _, e, _, c2⟩ := hO.at (i := 2) rfl
  cases e
  rw [Nat.add_zero] at c0
  have m3 : 3 ≤ (a :: b :: c :: r).length := by simp
  clear hO hk HKN hN RN HR
  generalize (a :: b :: c :: r).length = m at *
  have m0 : (0 : Int) < m := by omega
  have m1 : (1 : Int) < m := by omega
  have m2 : (2 : Int) < m := by omega
  go_wp2
  go_quiet (fail)
  rw [num_bits a b c]
  have KQ := Lib.hid (K1.out.drewN nq)
  have hnl := num_lt a b c
  have q0 : (num a b c : Int) / 262144 = ((num a b c / 262144 : Nat) : Int) := by omega
  have q1 : bits BinOp.and IntKind.i64 ((num a b c : Int) / 4096) 63 = ((num a b c / 4096 % 64 : Nat) : Int) := by rw [and_63 _ (by omega) (by omega)]; omega
  have q2 : bits BinOp.and IntKind.i64 ((num a b c : Int) / 64) 63 = ((num a b c / 64 % 64 : Nat) : Int) := by rw [and_63 _ (by omega) (by omega)]; omega
  have q3 : bits BinOp.and IntKind.i64 (num a b c : Int) 63 = ((num a b c % 64 : Nat) : Int) := by rw [and_63 _ (by omega) (by omega)]; omega
  have e0 := Lib.hid (sg_at (num a b c / 262144))
  have e1 := Lib.hid (sg_at (num a b c / 4096 % 64))
  have e2 := Lib.hid (sg_at (num a b c / 64 % 64))
  have e3 := Lib.hid (sg_at (num a b c % 64))
  have l0 : num a b c / 262144 < 64 := by omega
  have l1 : num a b c / 4096 % 64 < 64 := by omega
  have l2 : num a b c / 64 % 64 < 64 := by omega
  have l3 : num a b c % 64 < 64 := by omega
  generalize num a b c / 262144 = d0 at *
  generalize num a b c / 4096 % 64 = d1 at *
  generalize num a b c / 64 % 64 = d2 at *
  generalize num a b c % 64 = d3 at *
  have i0 : (d0 : Int) < 64 := by omega
  have i1 : (d1 : Int) < 64 := by omega
  have i2 : (d2 : Int) < 64 := by omega
  have i3 : (d3 : Int) < 64 := by omega
  generalize x1.drewN nq = x at *
  clear K1 c0 c1 c2
  go_wp2
  go_region
  simp only [e0.out, e1.out, e2.out, e3.out]
  have hM : (x.alloc (.cells #[.int .u8 (sg d0).toNat, .int .u8 (sg d1).toNat, .int .u8 (sg d2).toNat, .int .u8 (sg d3).toNat] 5)).drew.heap[x.heap.size]? = some (.cells (byteCells [sg d0, sg d1, sg d2, sg d3]).toArray 5 (0, 0)) := by
    show (x.heap.push _)[x.heap.size]? = _
    simp [byteCells]
  have kM := ((Kept.refl x).alloc (.cells #[.int .u8 (sg d0).toNat, .int .u8 (sg d1).toNat, .int .u8 (sg d2).toNat, .int .u8 (sg d3).toNat] 5)).drew
  generalize (x.alloc (.cells #[.int .u8 (sg d0).toNat, .int .u8 (sg d1).toNat, .int .u8 (sg d2).toNat, .int .u8 (sg d3).toNat] 5)).drew = y at *
  have KY := Lib.hid (KQ.out.trans kM)
  have HM := Lib.hid hM
  have hMw := KQ.out.size
  clear hM kM KQ
  generalize x.heap.size = M at *
  clear q0 q1 q2 q3 e0 e1 e2 e3 l0 l1 l2 l3 i0 i1 i2 i3 m0 m1 m2
  generalize (sg d0) = s0 at *
  generalize (sg d1) = s1 at *
  generalize (sg d2) = s2 at *
  generalize (sg d3) = s3 at *
  go_wp2_with fail
  go_loopw [6] (fun vi wr => ∃ (i : Nat) (L : B), l.length + 1 ≤ i ∧ i ≤ 4 ∧ vi = .int .i64 i ∧ L.length = 4 ∧ Hid (wr.heap[M]? = some (.cells (byteCells L).toArray 5 (0, 0))) ∧ Hid (Kept w wr) ∧ Hid (∀ j, j < 4 → L[j]? = if l.length < j ∧ j < i then some 61 else [s0, s1, s2, s3][j]?)) (fun vi _ => 4 - (intOf vi).toNat)
  case atStart => exact ⟨l.length + 1, [s0, s1, s2, s3], Nat.le_refl _, by omega, by go_num, rfl, HM, KY, Lib.hid (fun j _ => by rw [if_neg (by omega)])⟩
  case round =>
    obtain ⟨i, L, hi1, hi2, rfl, hL4, hB, hK, hJ⟩ := hrel
    rename_i wr
    by_cases h4 : i < 4
    · have hi4 : (i : Int) < 4 := by omega
      obtain ⟨u, hu⟩ : ∃ u, L[i]? = some u := ⟨_, List.getElem?_eq_getElem (by omega)⟩
      have hcell := block_cell hB.out hu
      have hfree := block_free (i := i) hB.out
      have HB2 := Lib.hid (set_block (i := i) hB.out)
      have HK2 := Lib.hid (hK.out.setCell (a := ⟨M, i, none⟩) hMw (.int .u8 61))
      clear hu
      go_wp2
      go_roundw
      case rel =>
        refine ⟨i + 1, L.set i 61, by omega, by omega, by go_num, by simpa using hL4, HB2, HK2, Lib.hid (fun j hj => ?_)⟩
        rw [List.getElem?_set]
        by_cases hij : i = j
        · rw [if_pos hij, if_pos (by omega), if_pos (by omega)]
        · rw [if_neg hij, hJ.out j hj]
          by_cases q : l.length < j ∧ j < i
          · rw [if_pos q, if_pos (by omega)]
          · rw [if_neg q, if_neg (by omega)]
      case measure => simp [intOf]; omega
    · have h4' : ¬ (i : Int) < 4 := by omega
      have HE := Lib.hid (HL.out L hL4 (fun j hj => (hJ.out j hj).trans (by
        by_cases q : l.length < j
        · rw [if_pos (by omega), if_pos q]
        · rw [if_neg (by omega), if_neg q])))
      go_wp2
      go_ret
      exact ⟨_, rfl, by rw [← HE.out]; exact block_brd hB.out hL4, hK.out⟩
end Go.Proofs.YtdhhlcgmkkpldaaGreatDoor
