import Derived.Test.YtjlpkgipdkjfhaaGreatDoorHa
import Derived.Laws.BitsLemmas
set_option linter.unusedVariables false
set_option linter.unusedSimpArgs false
namespace Go.Proofs.YtjlpkgipdkjfhaaGreatDoor.Bk
open Go.ChangeShapes Go.WideShapes Go.ChangeAt Go.RowKit
open Bx
theorem wraps_i64' (n : Int) (h₀ : 0 ≤ n) (h₁ : n < 2 ^ 62) : IntKind.i64.wrap n = n := by rw [IntKind.wrap_i64]; omega
theorem or_i64 (i : Nat) (x y : Int) (hx₀ : 0 ≤ x) (hx : x % 2 ^ i = 0) (hx₁ : x < 2 ^ 62) (hy₀ : 0 ≤ y) (hy : y < 2 ^ i) (hy₁ : y < 2 ^ 62) : bits .or .i64 x y = x + y :=
  bits_join .i64 62 (by decide) wraps_i64' i x y hx₀ hx hx₁ hy₀ hy hy₁
theorem and_i64 (i : Nat) (hi : i ≤ 62) (x : Int) (h₀ : 0 ≤ x) (h₁ : x < 2 ^ 62) : bits .and .i64 x (2 ^ i - 1) = x % 2 ^ i :=
  bits_mask .i64 62 (by decide) wraps_i64' i hi x h₀ h₁
theorem and_63 (x : Int) (h₀ : 0 ≤ x) (h₁ : x < 2 ^ 62) : bits .and .i64 x 63 = x % 64 := and_i64 6 (by decide) x h₀ h₁
theorem and_15 (x : Int) (h₀ : 0 ≤ x) (h₁ : x < 2 ^ 62) : bits .and .i64 x 15 = x % 16 := and_i64 4 (by decide) x h₀ h₁
theorem and_3 (x : Int) (h₀ : 0 ≤ x) (h₁ : x < 2 ^ 62) : bits .and .i64 x 3 = x % 4 := and_i64 2 (by decide) x h₀ h₁
theorem and_0 (x : Int) (h₀ : 0 ≤ x) (h₁ : x < 2 ^ 62) : bits .and .i64 x 0 = 0 := by
  have := and_i64 0 (by decide) x h₀ h₁
  simpa using this
theorem or_64 (x y : Int) (hx₀ : 0 ≤ x) (hx₁ : x < 2 ^ 50) (hy₀ : 0 ≤ y) (hy : y < 64) : bits .or .i64 (x * 64) y = x * 64 + y :=
  or_i64 6 (x * 64) y (by omega) (by omega) (by omega) hy₀ (by omega) (by omega)
theorem m_lt (n d : Nat) (hn : n < 64) (hd : d < 64) : 64 * n + d < 4096 := by omega
theorem read_bits (n d : Nat) (hn : n < 64) (hd : d < 64) : bits BinOp.or IntKind.i64 ((n : Int) * 64) (d : Int) = ((64 * n + d : Nat) : Int) := by
  have h1 : (n : Int) < 64 := by omega
  have h2 : (d : Int) < 64 := by omega
  rw [or_64 _ _ (by omega) (by omega) (by omega) (by omega)]
  omega
theorem num_bits (a b c : UInt8) : bits BinOp.or IntKind.i64 (bits BinOp.or IntKind.i64 (wrap64 (wrap64 (a.toNat : Int) * 65536)) (wrap64 (wrap64 (b.toNat : Int) * 256))) (wrap64 (c.toNat : Int)) = (num a b c : Int) := by
  have ha := a.toNat_lt
  have hb := b.toNat_lt
  have hc := c.toNat_lt
  have w1 : ∀ x : Int, 0 ≤ x → x < 2 ^ 50 → wrap64 x = x := fun x h0 h1 => by unfold wrap64; omega
  rw [w1 (a.toNat : Int) (by omega) (by omega), w1 (b.toNat : Int) (by omega) (by omega), w1 (c.toNat : Int) (by omega) (by omega), w1 _ (by omega) (by omega), w1 _ (by omega) (by omega)]
  rw [or_i64 16 ((a.toNat : Int) * 65536) ((b.toNat : Int) * 256) (by omega) (by omega) (by omega) (by omega) (by omega) (by omega), or_i64 8 ((a.toNat : Int) * 65536 + (b.toNat : Int) * 256) (c.toNat : Int) (by omega) (by omega) (by omega) (by omega) (by omega) (by omega)]
  unfold num
  omega
theorem sg_at (n : Nat) (h : n < (ByteArray.mk #[65, 66, 67, 68, 69, 70, 71, 72, 73, 74, 75, 76, 77, 78, 79, 80, 81, 82, 83, 84, 85, 86, 87, 88, 89, 90, 97, 98, 99, 100, 101, 102, 103, 104, 105, 106, 107, 108, 109, 110, 111, 112, 113, 114, 115, 116, 117, 118, 119, 120, 121, 122, 48, 49, 50, 51, 52, 53, 54, 55, 56, 57, 43, 47]).size) : (ByteArray.mk #[65, 66, 67, 68, 69, 70, 71, 72, 73, 74, 75, 76, 77, 78, 79, 80, 81, 82, 83, 84, 85, 86, 87, 88, 89, 90, 97, 98, 99, 100, 101, 102, 103, 104, 105, 106, 107, 108, 109, 110, 111, 112, 113, 114, 115, 116, 117, 118, 119, 120, 121, 122, 48, 49, 50, 51, 52, 53, 54, 55, 56, 57, 43, 47])[n]'h = sg n := by
  have h' : n < sgS.length := h
  refine byte_at sgS n (sg n) ?_ h
  unfold sg
  rw [List.getD_eq_getElem?_getD, List.getElem?_eq_getElem h']; rfl
theorem four_is {l : B} {a b c : UInt8} {r : B} (hl : 1 ≤ l.length) (hl3 : l.length ≤ 3) (h : l ++ [0, 0] = a :: b :: c :: r) (L : B) (hL : L.length = 4)
    (hj : ∀ j, j < 4 → L[j]? = if l.length < j then some 61 else [sg (num a b c / 262144), sg (num a b c / 4096 % 64), sg (num a b c / 64 % 64), sg (num a b c % 64)][j]?) : L = raw l := by
  obtain ⟨x0, x1, x2, x3, rfl⟩ : ∃ x0 x1 x2 x3, L = [x0, x1, x2, x3] := by
    match L, hL with
    | [x0, x1, x2, x3], _ => exact ⟨_, _, _, _, rfl⟩
  have h0 := hj 0 (by decide)
  have h1 := hj 1 (by decide)
  have h2 := hj 2 (by decide)
  have h3 := hj 3 (by decide)
  match l, hl, hl3 with
  | [p], _, _ =>
    injection h with e1 h; injection h with e2 h; injection h with e3 h
    subst e1; subst e2; subst e3
    simp at h0 h1 h2 h3
    rw [h0, h1, h2, h3]; rfl
  | [p, q], _, _ =>
    injection h with e1 h; injection h with e2 h; injection h with e3 h
    subst e1; subst e2; subst e3
    simp at h0 h1 h2 h3
    rw [h0, h1, h2, h3]; rfl
  | [p, q, s], _, _ =>
    injection h with e1 h; injection h with e2 h; injection h with e3 h
    subst e1; subst e2; subst e3
    simp at h0 h1 h2 h3
    rw [h0, h1, h2, h3]; rfl
theorem set_block {w : World} {M i : Nat} {L : B} (h : w.heap[M]? = some (.cells (byteCells L).toArray 5 (0, 0))) : (w.setCell ⟨M, i, none⟩ (.int .u8 61)).heap[M]? = some (.cells (byteCells (L.set i 61)).toArray 5 (0, 0)) := by
  rw [heap_setCell_same w M i _ _ _ h]
  simp [byteCells, List.map_set]
theorem block_cell {w : World} {M i : Nat} {L : B} (h : w.heap[M]? = some (.cells (byteCells L).toArray 5 (0, 0))) {x : UInt8} (hx : L[i]? = some x) : w.cell? ⟨M, i, none⟩ = some (.int .u8 x.toNat) := by
  simp [World.cell?, h, byteCells, hx]
theorem block_free {w : World} {M i : Nat} {L : B} (h : w.heap[M]? = some (.cells (byteCells L).toArray 5 (0, 0))) : w.frozen? ⟨M, i, none⟩ = false := by
  simp [World.frozen?, h]
theorem block_brd {w : World} {M : Nat} {L : B} {n : Nat} (h : w.heap[M]? = some (.cells (byteCells L).toArray 5 (0, 0))) (hn : L.length = n) : BRd (.slice (some ⟨M, 0, none⟩) n n) L w := by
  subst hn
  exact ⟨_, _, rfl, fun e => (by cases e), fun _ => ⟨_, _, rfl, Nat.le_refl _, fun i x hx => by rw [Nat.zero_add]; exact block_cell h hx⟩⟩
set_option maxRecDepth 100000 in
set_option maxHeartbeats 4000000 in
theorem four_any (g o : Nat) (l : B) (w : World) (hl : 1 ≤ l.length) (hl3 : l.length ≤ 3) (hR : BRd (.slice (some ⟨g, o, none⟩) l.length l.length) l w) :
    Calls Tryz.prog 248 #[.slice (some ⟨g, o, none⟩) l.length l.length] w fun e w' => ∃ xv, e = .returned xv ∧ BRd xv (raw l) w' ∧ Kept w w' := by
  have HR := Lib.hid hR
  have hne : l ≠ [] := by rintro rfl; simp at hl
  obtain ⟨a, b, c, r, hfull⟩ : ∃ a b c r, l ++ [0, 0] = a :: b :: c :: r := by
    match l, hl with
    | [a], _ => exact ⟨a, 0, 0, [], rfl⟩
    | [a, b], _ => exact ⟨a, b, 0, [0], rfl⟩
    | a :: b :: c :: r, _ => exact ⟨a, b, c, r ++ [0, 0], rfl⟩
  have HF := Lib.hid hfull
  have HL := Lib.hid (four_is hl hl3 hfull)
  clear hR hfull
  have kz := (Kept.refl w).alloc (.cells #[.int .u8 0, .int .u8 0] 5)
  have HKN := Lib.hid kz
  have hN := Lib.hid (brd_new w [0, 0] 5 #[.int .u8 0, .int .u8 0] rfl 2 (Nat.le_refl 2) (0, 0))
  have RN := Lib.hid (HR.out.kept kz)
  clear kz
  go_enter Tryz.func248, Tryz.ntmps248
  go_wp2_with (at_builtin; refine wpList_fullB rfl _ _ rfl g o _ l [0, 0] rfl RN.out rfl hN.out hne (by simp; omega) ?_)
  intro v1 x1 hO hk
  have K1 := Lib.hid (HKN.out.trans hk)
  rw [HF.out] at hO
  obtain ⟨h, o', cp, rfl, hcp, c0⟩ := hO.at (i := 0) rfl
  obtain ⟨_, _, _, e, _, c1⟩ := hO.at (i := 1) rfl
  cases e
  obtain ⟨_, _, _, e, _, c2⟩ := hO.at (i := 2) rfl
  cases e
  rw [Nat.add_zero] at c0
  have m3 : 3 ≤ (a :: b :: c :: r).length := by simp
  clear hO hk HKN hN RN HR
  generalize (a :: b :: c :: r).length = m at *
  have m0 : (0 : Int) < m := by omega
  have m1 : (1 : Int) < m := by omega
  have m2 : (2 : Int) < m := by omega
  go_wp2
  go_quiet (fail)
  rw [num_bits a b c]
  have KQ := Lib.hid (K1.out.drewN nq)
  have hnl := num_lt a b c
  have q0 : (num a b c : Int) / 262144 = ((num a b c / 262144 : Nat) : Int) := by omega
  have q1 : bits BinOp.and IntKind.i64 ((num a b c : Int) / 4096) 63 = ((num a b c / 4096 % 64 : Nat) : Int) := by rw [and_63 _ (by omega) (by omega)]; omega
  have q2 : bits BinOp.and IntKind.i64 ((num a b c : Int) / 64) 63 = ((num a b c / 64 % 64 : Nat) : Int) := by rw [and_63 _ (by omega) (by omega)]; omega
  have q3 : bits BinOp.and IntKind.i64 (num a b c : Int) 63 = ((num a b c % 64 : Nat) : Int) := by rw [and_63 _ (by omega) (by omega)]; omega
  have e0 := Lib.hid (sg_at (num a b c / 262144))
  have e1 := Lib.hid (sg_at (num a b c / 4096 % 64))
  have e2 := Lib.hid (sg_at (num a b c / 64 % 64))
  have e3 := Lib.hid (sg_at (num a b c % 64))
  have l0 : num a b c / 262144 < 64 := by omega
  have l1 : num a b c / 4096 % 64 < 64 := by omega
  have l2 : num a b c / 64 % 64 < 64 := by omega
  have l3 : num a b c % 64 < 64 := by omega
  generalize num a b c / 262144 = d0 at *
  generalize num a b c / 4096 % 64 = d1 at *
  generalize num a b c / 64 % 64 = d2 at *
  generalize num a b c % 64 = d3 at *
  have i0 : (d0 : Int) < 64 := by omega
  have i1 : (d1 : Int) < 64 := by omega
  have i2 : (d2 : Int) < 64 := by omega
  have i3 : (d3 : Int) < 64 := by omega
  generalize x1.drewN nq = x at *
  clear K1 c0 c1 c2
  go_wp2
  go_region
  simp only [e0.out, e1.out, e2.out, e3.out]
  have hM : (x.alloc (.cells #[.int .u8 (sg d0).toNat, .int .u8 (sg d1).toNat, .int .u8 (sg d2).toNat, .int .u8 (sg d3).toNat] 5)).drew.heap[x.heap.size]? = some (.cells (byteCells [sg d0, sg d1, sg d2, sg d3]).toArray 5 (0, 0)) := by
    show (x.heap.push _)[x.heap.size]? = _
    simp [byteCells]
  have kM := ((Kept.refl x).alloc (.cells #[.int .u8 (sg d0).toNat, .int .u8 (sg d1).toNat, .int .u8 (sg d2).toNat, .int .u8 (sg d3).toNat] 5)).drew
  generalize (x.alloc (.cells #[.int .u8 (sg d0).toNat, .int .u8 (sg d1).toNat, .int .u8 (sg d2).toNat, .int .u8 (sg d3).toNat] 5)).drew = y at *
  have KY := Lib.hid (KQ.out.trans kM)
  have HM := Lib.hid hM
  have hMw := KQ.out.size
  clear hM kM KQ
  generalize x.heap.size = M at *
  clear q0 q1 q2 q3 e0 e1 e2 e3 l0 l1 l2 l3 i0 i1 i2 i3 m0 m1 m2
  generalize (sg d0) = s0 at *
  generalize (sg d1) = s1 at *
  generalize (sg d2) = s2 at *
  generalize (sg d3) = s3 at *
  go_wp2_with fail
  go_loopw [6] (fun vi wr => ∃ (i : Nat) (L : B), l.length + 1 ≤ i ∧ i ≤ 4 ∧ vi = .int .i64 i ∧ L.length = 4 ∧ Hid (wr.heap[M]? = some (.cells (byteCells L).toArray 5 (0, 0))) ∧ Hid (Kept w wr) ∧ Hid (∀ j, j < 4 → L[j]? = if l.length < j ∧ j < i then some 61 else [s0, s1, s2, s3][j]?)) (fun vi _ => 4 - (intOf vi).toNat)
  case atStart => exact ⟨l.length + 1, [s0, s1, s2, s3], Nat.le_refl _, by omega, by go_num, rfl, HM, KY, Lib.hid (fun j _ => by rw [if_neg (by omega)])⟩
  case round =>
    obtain ⟨i, L, hi1, hi2, rfl, hL4, hB, hK, hJ⟩ := hrel
    rename_i wr
    by_cases h4 : i < 4
    · have hi4 : (i : Int) < 4 := by omega
      obtain ⟨u, hu⟩ : ∃ u, L[i]? = some u := ⟨_, List.getElem?_eq_getElem (by omega)⟩
      have hcell := block_cell hB.out hu
      have hfree := block_free (i := i) hB.out
      have HB2 := Lib.hid (set_block (i := i) hB.out)
      have HK2 := Lib.hid (hK.out.setCell (a := ⟨M, i, none⟩) hMw (.int .u8 61))
      clear hu
      go_wp2
      go_roundw
      case rel =>
        refine ⟨i + 1, L.set i 61, by omega, by omega, by go_num, by simpa using hL4, HB2, HK2, Lib.hid (fun j hj => ?_)⟩
        rw [List.getElem?_set]
        by_cases hij : i = j
        · rw [if_pos hij, if_pos (by omega), if_pos (by omega)]
        · rw [if_neg hij, hJ.out j hj]
          by_cases q : l.length < j ∧ j < i
          · rw [if_pos q, if_pos (by omega)]
          · rw [if_neg q, if_neg (by omega)]
      case measure => simp [intOf]; omega
    · have h4' : ¬ (i : Int) < 4 := by omega
      have HE := Lib.hid (HL.out L hL4 (fun j hj => (hJ.out j hj).trans (by
        by_cases q : l.length < j
        · rw [if_pos (by omega), if_pos q]
        · rw [if_neg (by omega), if_neg q])))
      go_wp2
      go_ret
      exact ⟨_, rfl, by rw [← HE.out]; exact block_brd hB.out hL4, hK.out⟩
theorem len_le {a b c : B} (h : a ++ b = c) : a.length ≤ c.length := by rw [← h, List.length_append]; omega
theorem raw_le (b : B) : (raw b).length ≤ 2 * b.length + 4 := by rw [raw_len]; omega
set_option maxRecDepth 100000 in
set_option maxHeartbeats 4000000 in
theorem raw_any (v : Value) (l : B) (w : World) (hR : BRd v l w) (hl : l.length ≤ 1000000) : Calls Tryz.prog 211 #[v] w fun e w' => e = .returned (sV (raw l)) ∧ Kept w w' := by
  obtain ⟨a, c, hv⟩ := hR.slice
  have HB := Lib.hid (BOld.of hR)
  have hle := raw_le l
  have HLE := Lib.hid (show (raw l).length ≤ 2000004 by omega)
  clear hR hle
  subst hv
  go_enter Tryz.func211, Tryz.ntmps211
  go_wp2_with fail
  go_loopw [0, 3] (fun vb vm wr => ∃ (r D : B), r.length ≤ l.length ∧ Hid (BOld w.heap.size vb r wr) ∧ Hid (D ++ raw r = raw l) ∧ Hid (Kept w wr) ∧ Hid (OwnB w.heap.size vm D wr)) (fun vb _ _ => match vb with | .slice _ n _ => n | _ => 0)
  case atStart => exact ⟨l, [], Nat.le_refl _, HB, Lib.hid rfl, Lib.hid (Kept.refl w), Lib.hid (OwnB.nil _ _)⟩
  case round =>
    obtain ⟨r, D, hr, hB, hD, hK, hO⟩ := hrel
    obtain ⟨ta, tc, htv⟩ := own_slice hO.out
    have hDl := len_le hD.out
    have hDl := Nat.le_trans hDl HLE.out
    have hsz := hK.out.size
    subst htv
    by_cases hne : r = []
    · obtain ⟨ra, rc, hrv⟩ := hB.out.1.slice
      have HF := Lib.hid (show D = raw l by rw [← hD.out, hne]; simp [raw])
      have hr0 : r.length = 0 := by rw [hne]; rfl
      subst hrv
      have hcv := hO.out.rd.conv
      clear hD hB hO hne
      rw [hr0]
      go_wp2
      go_ret
      exact ⟨by rw [HF.out]; rfl, hK.out⟩
    · have hpos := List.length_pos_iff.2 hne
      obtain ⟨g, o, rc, hrv⟩ : ∃ g o c, u0 = .slice (some ⟨g, o, none⟩) r.length c := by
        obtain ⟨x, hx⟩ : ∃ x, r[0]? = some x := ⟨_, List.getElem?_eq_getElem hpos⟩
        obtain ⟨g, o, c, h, _⟩ := hB.out.1.at hx
        exact ⟨g, o, c, h⟩
      have HNE := Lib.hid hne
      have hgl := hB.out.2 hne g (by rw [hrv]; rfl)
      subst hrv
      have hposI : (0 : Int) < r.length := by omega
      have HC := Lib.hid (cut_any g o 3 rc r wr hB.out.1 hne (by decide) (by decide) (by unfold maxLen; omega))
      have HFB := Lib.hid (hB.out.1.full (min 3 r.length) (Nat.min_le_right _ _))
      have ht3 : (r.take 3).length = min 3 r.length := by simp
      have ht1 : 1 ≤ (r.take 3).length := by rw [ht3]; omega
      have ht2 : (r.take 3).length ≤ 3 := by rw [ht3]; omega
      have htt : r.take (min 3 r.length) = r.take 3 := by
        rcases Nat.le_total 3 r.length with q | q
        · rw [Nat.min_eq_left q]
        · rw [Nat.min_eq_right q, List.take_length, List.take_of_length_le q]
      rw [htt, ← ht3] at HFB
      have HD2 := Lib.hid (show (D ++ raw (r.take 3)) ++ raw (r.drop 3) = raw l by rw [← hD.out, raw_cut r, List.append_assoc])
      have hdl : (r.drop 3).length < r.length := by simp; omega
      have hrl := raw_le (r.take 3)
      clear hne hD hB ht3 htt
      generalize r.take 3 = t at *
      generalize r.drop 3 = d at *
      go_wp2_with fail
      refine HC.out.mono ?_
      rintro e x ⟨yv, rfl, k1, hy, hyo⟩
      have K1 := Lib.hid (hK.out.trans k1)
      have O1 := Lib.hid (hO.out.kept k1)
      have F1 := Lib.hid (HFB.out.kept k1)
      have Y1 := Lib.hid (show BOld w.heap.size yv d x from ⟨hy.kept k1, fun _ g' hg' => by rw [hyo] at hg'; cases hg'; exact hgl⟩)
      clear hK hO HFB HC hy hyo k1
      go_wp2_with fail
      refine (four_any g o t x ht1 ht2 F1.out).mono ?_
      rintro e y ⟨xv, rfl, hx, k2⟩
      have K2 := Lib.hid (K1.out.trans k2)
      have O2 := Lib.hid (O1.out.kept k2)
      have X2 := Lib.hid hx
      have Y2 := Lib.hid (Y1.out.kept k2)
      obtain ⟨xa, xc, hxv⟩ := hx.slice
      subst hxv
      have hszy := K2.out.size
      clear hx k2 K1 O1 F1 Y1
      generalize raw t = T at *
      go_wp2_with (at_builtin; refine wpList_sliceB rfl _ _ rfl w.heap.size (.slice ta D.length tc) (.slice xa T.length xc) D T rfl O2.out rfl X2.out (by omega) hszy ?_)
      intro v' z hz hgz
      have KZ := Lib.hid (kept_row K2.out hgz (fun g hg => (World.ownsRow.lt O2.out g hg).1))
      have YZ := Lib.hid (Y2.out.grow hgz (fun g hg => (World.ownsRow.lt O2.out g hg).1))
      have OZ := Lib.hid hz
      clear hz hgz O2 K2 X2 Y2
      go_wp2_with fail
      go_roundw
      case rel => exact ⟨d, D ++ T, by omega, YZ, HD2, KZ, OZ⟩
      case measure =>
        obtain ⟨ya, yc, hyv⟩ := YZ.out.1.slice
        subst hyv
        simpa using hdl
end Go.Proofs.YtjlpkgipdkjfhaaGreatDoor.Bk
