/- Several texts of this seat, one behind the other. -/
import Derived.Test.YtgpocnnolieijaaGreatDoorMgC
import Derived.Deep.RegionHeld3
import Derived.Deep.CutBlock
import Derived.Deep.CutRange
import Derived.Test.YtgpocnnolieijaaGreatDoorMgD
import Derived.Test.YtgpocnnolieijaaGreatDoorMgG
import Derived.Lib.SlBytesConst
import Derived.Test.YtgpocnnolieijaaGreatDoorMgE
import Derived.BigQuiet
/- The document's own answers of layer b64: a sign's number; Raw. -/
set_option linter.unusedSimpArgs false
set_option linter.unusedVariables false
namespace Go.Proofs.YtgpocnnolieijaaGreatDoor
open Go.ChangeShapes Go.WideShapes Go.ChangeAt Go.RowKit
open Bx
theorem dg_back : ∀ n, n < 256 → dg (UInt8.ofNat n) = -1 ∨ sg (dg (UInt8.ofNat n)).toNat = UInt8.ofNat n := by decide +kernel
theorem nm_hit {i : Nat} {c : UInt8} (hi : i < 64) (h : sg i = c) : nm c = i := by rw [← h, nm_sg hi]
theorem nm_miss {c : UInt8} (h : ∀ j, j < 64 → sg j ≠ c) : nm c = 0 := by
  unfold nm
  split
  · rfl
  · rename_i hd
    have h1 := dg_back c.toNat c.toNat_lt
    rw [UInt8.ofNat_toNat] at h1
    have h2 := dg_bd c
    rcases h1 with h1 | h1
    · omega
    · exact absurd h1 (h _ (by omega))
set_option maxRecDepth 100000 in
set_option maxHeartbeats 4000000 in
theorem number_any (c : UInt8) (w : World) : Calls Tryz.prog 139 #[.int .u8 c.toNat] w fun e w' => e = .returned (iV (nm c)) ∧ Kept w w' := by
  go_enter Tryz.func139, Tryz.ntmps139
  go_wp2_with fail
  go_loopw [3] (fun vi wr => ∃ (i : Nat), i ≤ 64 ∧ vi = .int .i64 i ∧ Hid (Kept w wr) ∧ Hid (∀ j, j < i → sg j ≠ c)) (fun vi _ => 64 - (intOf vi).toNat)
  case atStart => exact ⟨0, by decide, rfl, Lib.hid (Kept.refl w), Lib.hid (fun j hj => by omega)⟩
  case round =>
    obtain ⟨i, hi, rfl, hK, hJ⟩ := hrel
    by_cases hlt : i < 64
    · have hltI : (i : Int) < 64 := by omega
      have HS := sg_at i
      dsimp only at HS
      by_cases h : (sg i).toNat = c.toNat
      · have HN := Lib.hid (nm_hit hlt (UInt8.toNat_inj.1 h))
        have hI : ((sg i).toNat : Int) = c.toNat := by omega
        clear h
        go_wp2
        go_ret
        exact ⟨by rw [HN.out]; rfl, hK.out⟩
      · have hI : ((((sg i).toNat : Int)) == (c.toNat : Int)) = false := beq_eq_false_iff_ne.2 (by omega)
        have HJ := Lib.hid (show ∀ j, j < i + 1 → sg j ≠ c from fun j hj => by
          by_cases q : j = i
          · subst q; exact fun e => h (by rw [e])
          · exact hJ.out j (by omega))
        clear h hJ
        go_wp2
        go_roundw
        case rel => exact ⟨i + 1, hlt, by go_num, hK, HJ⟩
        case measure => simp [intOf]; omega
    · have hltI : ¬ (i : Int) < 64 := by omega
      have HN := Lib.hid (nm_miss (fun j hj => hJ.out j (by omega)))
      clear hJ
      go_wp2
      go_ret
      exact ⟨by rw [HN.out]; rfl, hK.out⟩
/-- the number of the first three -/
def num3 (r : B) : Nat := num (r.getD 0 0) (r.getD 1 0) (r.getD 2 0)
theorem raw4 (r : B) (h : r ≠ []) : raw r = ([sg (num3 r / 262144), sg (num3 r / 4096 % 64)] ++ ((if 1 < r.length then [sg (num3 r / 64 % 64)] else [61]) ++ (if 2 < r.length then [sg (num3 r % 64)] else [61]))) ++ raw (r.drop 3) := by
  match r, h with
  | [a], _ => rfl
  | [a, b], _ => rfl
  | a :: b :: c :: r, _ =>
    rw [if_pos (by simp), if_pos (by simp)]
    rfl
/-- so many bytes' number, from a place on -/
def pnum (l : B) (i : Nat) : Nat → Nat
  | 0 => 0
  | m + 1 => 256 * pnum l i m + (l.getD (i + m) 0).toNat
theorem pnum_3 (l : B) (i : Nat) : pnum l i 3 = num3 (l.drop i) := by
  have e : ∀ j, (l.drop i).getD j 0 = l.getD (i + j) 0 := fun j => by simp [List.getD]
  unfold num3 num
  rw [e, e, e]
  simp only [pnum, Nat.add_zero]
  omega
theorem pnum_lt (l : B) (i : Nat) : ∀ m, pnum l i m < 256 ^ m
  | 0 => Nat.zero_lt_one
  | m + 1 => by
    have h := pnum_lt l i m
    have h2 := (l.getD (i + m) 0).toNat_lt
    rw [Nat.pow_succ]
    simp only [pnum]
    omega
theorem pnum_bd (l : B) (i m : Nat) (h : m ≤ 3) : pnum l i m < 16777216 := Nat.lt_of_lt_of_le (pnum_lt l i m) (Nat.pow_le_pow_right (by decide) h : 256 ^ m ≤ 256 ^ 3)
set_option maxRecDepth 100000 in
set_option maxHeartbeats 4000000 in
theorem rraw_any (v : Value) (l : B) (w : World) (hR : BRd v l w) (hl : l.length ≤ 1000000) : Calls Tryz.prog 96 #[v] w fun e w' => e = .returned (sV (raw l)) ∧ Kept w w' := by
  obtain ⟨a, c, hv⟩ := hR.slice
  have HB := Lib.hid (BOld.of hR)
  have hle := raw_le l
  have HLE := Lib.hid (show (raw l).length ≤ 2000004 by omega)
  clear hR hle
  subst hv
  go_enter Tryz.func96, Tryz.ntmps96
  go_wp2_with fail
  go_loopw [3, 4] (fun vm vi wr => ∃ (i : Nat) (D : B), i ≤ l.length + 2 ∧ vi = .int .i64 i ∧ Hid (BOld w.heap.size (.slice a l.length c) l wr) ∧ Hid (D ++ raw (l.drop i) = raw l) ∧ Hid (Kept w wr) ∧ Hid (OwnB w.heap.size vm D wr)) (fun _ vi _ => l.length + 3 - (intOf vi).toNat)
  case atStart => exact ⟨0, [], Nat.zero_le _, rfl, HB, Lib.hid rfl, Lib.hid (Kept.refl w), Lib.hid (OwnB.nil _ _)⟩
  case round =>
    obtain ⟨i, D, hi, rfl, hB, hD, hKw, hO⟩ := hrel
    obtain ⟨ta, tc, htv⟩ := own_slice hO.out
    have hDl := len_le hD.out
    have hDl := Nat.le_trans hDl HLE.out
    have hsz := hKw.out.size
    subst htv
    by_cases hlt : i < l.length
    · have hltI : (i : Int) < l.length := by omega
      have hne : l.drop i ≠ [] := fun e => by rw [List.drop_eq_nil_iff] at e; omega
      have HR4 := Lib.hid (raw4 (l.drop i) hne)
      rw [List.drop_drop, List.length_drop] at HR4
      clear hne
      go_upto_block 2 with (fail)
      go_cut [5, 6] from 7 to 71 (fun vn vk wx => vn = .int .i64 (num3 (l.drop i)) ∧ vk = .int .i64 (i + 3) ∧ wx = wr)
      case first =>
        clear hD HLE HR4 hO
        go_wp2_with fail
        go_loopw [5, 6] (fun vn vk wx => ∃ k : Nat, i ≤ k ∧ k ≤ i + 3 ∧ vn = .int .i64 (pnum l i (k - i)) ∧ vk = .int .i64 k ∧ wx = wr) (fun _ vk _ => i + 3 - (intOf vk).toNat)
        case atStart => exact ⟨i, Nat.le_refl _, by omega, by simp [pnum], rfl, rfl⟩
        case round =>
          obtain ⟨k, hk1, hk2, rfl, rfl, rfl⟩ := hrel
          by_cases hk3 : k < i + 3
          · have hk3I : (k : Int) < (i : Int) + 3 := by omega
            have hbd := pnum_bd l i (k - i) (by omega)
            have hS : pnum l i (k + 1 - i) = 256 * pnum l i (k - i) + (l.getD k 0).toNat := by
              rw [show k + 1 - i = (k - i) + 1 by omega, pnum, show i + (k - i) = k by omega]
            by_cases hkl : k < l.length
            · have hklI : (k : Int) < l.length := by omega
              obtain ⟨x, hx⟩ : ∃ x, l[k]? = some x := ⟨_, List.getElem?_eq_getElem hkl⟩
              have hx2 : l.getD k 0 = x := by simp [List.getD, hx]
              obtain ⟨g, o, cp, hv', hcp, cell⟩ := hB.out.1.at hx
              cases hv'
              have hxl := x.toNat_lt
              rw [hx2] at hS
              clear hx hx2
              generalize pnum l i (k - i) = n at *
              go_wp2
              go_roundw
              case rel => exact ⟨k + 1, by omega, by omega, by rw [hS]; go_num, by go_num, trivial⟩
              case measure => simp [intOf]; omega
            · have hklI : ¬ (k : Int) < l.length := by omega
              have hx2 : l.getD k 0 = 0 := by simp [List.getD, List.getElem?_eq_none (Nat.le_of_not_lt hkl)]
              rw [hx2, show (0 : UInt8).toNat = 0 from rfl, Nat.add_zero] at hS
              clear hx2
              generalize pnum l i (k - i) = n at *
              go_wp2
              go_roundw
              case rel => exact ⟨k + 1, by omega, by omega, by rw [hS]; go_num, by go_num, trivial⟩
              case measure => simp [intOf]; omega
          · have hk3I : ¬ (k : Int) < (i : Int) + 3 := by omega
            have hke : k = i + 3 := by omega
            have hn := pnum_3 l i
            go_wp2
            go_meet
            case rel => exact ⟨by first | rfl | rw [hke, show i + 3 - i = 3 by omega, hn], by first | rfl | (rw [hke]; go_num), rfl⟩
      case rest =>
        obtain ⟨rfl, rfl, hwc⟩ := hcut
        have hwd := hwc.symm
        clear hwc
        subst hwd
        have hnl := num_lt ((l.drop i).getD 0 0) ((l.drop i).getD 1 0) ((l.drop i).getD 2 0)
        rw [show num ((l.drop i).getD 0 0) ((l.drop i).getD 1 0) ((l.drop i).getD 2 0) = num3 (l.drop i) from rfl] at hnl
        generalize num3 (l.drop i) = n at *
        have q0 : IntKind.i64.wrap ((n : Int) / 262144) = ((n / 262144 : Nat) : Int) := by rw [wraps_i64' _ (by omega) (by omega)]; omega
        have q1 : IntKind.i64.wrap ((n : Int) / 4096) = ((n / 4096 : Nat) : Int) := by rw [wraps_i64' _ (by omega) (by omega)]; omega
        have q2 : ((n / 4096 : Nat) : Int).tmod 64 = ((n / 4096 % 64 : Nat) : Int) := by rw [Int.tmod_eq_emod_of_nonneg (by omega)]; omega
        have l0 : n / 262144 < 64 := by omega
        have l1 : n / 4096 % 64 < 64 := by omega
        have s0 := sg_at (n / 262144)
        have s1 := sg_at (n / 4096 % 64)
        dsimp only at s0 s1
        have l2 : n / 64 % 64 < 64 := by omega
        have l3 : n % 64 < 64 := by omega
        have e2 : (n : Int) / 64 % 64 = ((n / 64 % 64 : Nat) : Int) := by omega
        have e3 : (n : Int) % 64 = ((n % 64 : Nat) : Int) := by omega
        have s2 := sg_at (n / 64 % 64)
        have s3 := sg_at (n % 64)
        dsimp only at s2 s3
        generalize n / 262144 = d0 at *
        generalize n / 4096 % 64 = d1 at *
        generalize n / 64 % 64 = d2 at *
        generalize n % 64 = d3 at *
        generalize n / 4096 = m0 at *
        have i2 : (d2 : Int) < 64 := by omega
        have i3 : (d3 : Int) < 64 := by omega
        have i0 : (d0 : Int) < 64 := by omega
        have i1 : (d1 : Int) < 64 := by omega
        go_wp2_with fail
        refine wp_region_held_drew (S := (fun _ => True)) (by kernel_rfl) trivial (fun hS0 => ?_)
        refine wpAnyH_take (i := 0) (oi := { dst := some 33, op := Go.Op.move (Go.Operand.tmp 3), type := 26, pos := "ref.go:20", after := #[], guard := none }) (v := ?vz0) rfl (by kernel_rfl) (by kernel_rfl) (by kernel_rfl) (fun _ _ _ h => h) (Or.inl ⟨by rfl, ?yz0⟩) (by assumption) ?rz0
        case yz0 => (intro wq hSw; (try dsimp only at hSw); go_simp; try with_reducible rfl)
        simp only [Act.put, List.setIfInBounds_toArray, List.set_cons_zero, List.set_cons_succ]
        refine wpAnyH_take (i := 1) (oi := { dst := some 34, op := Go.Op.move (Go.Operand.tmp 5), type := 3, pos := "ref.go:20", after := #[], guard := none }) (v := ?vz1) rfl (by kernel_rfl) (by kernel_rfl) (by kernel_rfl) (fun _ _ _ h => h) (Or.inl ⟨by rfl, ?yz1⟩) (by assumption) ?rz1
        case yz1 => (intro wq hSw; (try dsimp only at hSw); go_simp; try with_reducible rfl)
        simp only [Act.put, List.setIfInBounds_toArray, List.set_cons_zero, List.set_cons_succ]
        refine wpAnyH_take (i := 2) (oi := { dst := some 35, op := Go.Op.binOp Go.BinOp.quo 3 (Go.Operand.tmp 34) (Go.Operand.const (Go.Value.int Go.IntKind.i64 262144)) 3, type := 3, pos := "ref.go:20", after := #[{ on := 1, ground := Go.Ground.data }], guard := none }) (v := ?vz2) rfl (by kernel_rfl) (by kernel_rfl) (by kernel_rfl) (fun _ _ _ h => h) (Or.inl ⟨by rfl, ?yz2⟩) (by assumption) ?rz2
        case yz2 => (intro wq hSw; (try dsimp only at hSw); go_simp; try with_reducible rfl)
        simp only [Act.put, List.setIfInBounds_toArray, List.set_cons_zero, List.set_cons_succ]
        refine wpAnyH_take (i := 3) (oi := { dst := some 36, op := Go.Op.index 9 (Go.Operand.const (Go.Value.string { data := #[65, 66, 67, 68, 69, 70, 71, 72, 73, 74, 75, 76, 77, 78, 79, 80, 81, 82, 83, 84, 85, 86, 87, 88, 89, 90, 97, 98, 99, 100, 101, 102, 103, 104, 105, 106, 107, 108, 109, 110, 111, 112, 113, 114, 115, 116, 117, 118, 119, 120, 121, 122, 48, 49, 50, 51, 52, 53, 54, 55, 56, 57, 43, 47] })) (Go.Operand.tmp 35), type := 5, pos := "ref.go:20", after := #[{ on := 2, ground := Go.Ground.data }], guard := none }) (v := ?vz3) rfl (by kernel_rfl) (by kernel_rfl) (by kernel_rfl) (fun _ _ _ h => h) (Or.inl ⟨by rfl, ?yz3⟩) (by assumption) ?rz3
        case yz3 => (intro wq hSw; (try dsimp only at hSw); go_simp; try with_reducible rfl)
        simp only [Act.put, List.setIfInBounds_toArray, List.set_cons_zero, List.set_cons_succ]
        refine wpAnyH_take (i := 4) (oi := { dst := some 37, op := Go.Op.move (Go.Operand.tmp 5), type := 3, pos := "ref.go:20", after := #[], guard := none }) (v := ?vz4) rfl (by kernel_rfl) (by kernel_rfl) (by kernel_rfl) (fun _ _ _ h => h) (Or.inl ⟨by rfl, ?yz4⟩) (by assumption) ?rz4
        case yz4 => (intro wq hSw; (try dsimp only at hSw); go_simp; try with_reducible rfl)
        simp only [Act.put, List.setIfInBounds_toArray, List.set_cons_zero, List.set_cons_succ]
        refine wpAnyH_take (i := 5) (oi := { dst := some 38, op := Go.Op.binOp Go.BinOp.quo 3 (Go.Operand.tmp 37) (Go.Operand.const (Go.Value.int Go.IntKind.i64 4096)) 3, type := 3, pos := "ref.go:20", after := #[{ on := 4, ground := Go.Ground.data }], guard := none }) (v := ?vz5) rfl (by kernel_rfl) (by kernel_rfl) (by kernel_rfl) (fun _ _ _ h => h) (Or.inl ⟨by rfl, ?yz5⟩) (by assumption) ?rz5
        case yz5 => (intro wq hSw; (try dsimp only at hSw); go_simp; try with_reducible rfl)
        simp only [Act.put, List.setIfInBounds_toArray, List.set_cons_zero, List.set_cons_succ]
        refine wpAnyH_take (i := 6) (oi := { dst := some 39, op := Go.Op.binOp Go.BinOp.rem 3 (Go.Operand.tmp 38) (Go.Operand.const (Go.Value.int Go.IntKind.i64 64)) 3, type := 3, pos := "ref.go:20", after := #[{ on := 5, ground := Go.Ground.data }], guard := none }) (v := ?vz6) rfl (by kernel_rfl) (by kernel_rfl) (by kernel_rfl) (fun _ _ _ h => h) (Or.inl ⟨by rfl, ?yz6⟩) (by assumption) ?rz6
        case yz6 => (intro wq hSw; (try dsimp only at hSw); go_simp; try with_reducible rfl)
        simp only [Act.put, List.setIfInBounds_toArray, List.set_cons_zero, List.set_cons_succ]
        refine wpAnyH_take (i := 7) (oi := { dst := some 40, op := Go.Op.index 9 (Go.Operand.const (Go.Value.string { data := #[65, 66, 67, 68, 69, 70, 71, 72, 73, 74, 75, 76, 77, 78, 79, 80, 81, 82, 83, 84, 85, 86, 87, 88, 89, 90, 97, 98, 99, 100, 101, 102, 103, 104, 105, 106, 107, 108, 109, 110, 111, 112, 113, 114, 115, 116, 117, 118, 119, 120, 121, 122, 48, 49, 50, 51, 52, 53, 54, 55, 56, 57, 43, 47] })) (Go.Operand.tmp 39), type := 5, pos := "ref.go:20", after := #[{ on := 6, ground := Go.Ground.data }], guard := none }) (v := ?vz7) rfl (by kernel_rfl) (by kernel_rfl) (by kernel_rfl) (fun _ _ _ h => h) (Or.inl ⟨by rfl, ?yz7⟩) (by assumption) ?rz7
        case yz7 => (intro wq hSw; (try dsimp only at hSw); go_simp; try with_reducible rfl)
        simp only [Act.put, List.setIfInBounds_toArray, List.set_cons_zero, List.set_cons_succ]
        refine wpAnyH_ready (rs := [8]) (by kernel_rfl) (by simp) (AllReadyH.cons (o := { dst := some 41, op := Go.Op.buildSlice 26 2 #[(0, Go.Operand.tmp 36), (1, Go.Operand.tmp 40)], type := 26, pos := "ref.go:20", after := #[{ on := 3, ground := Go.Ground.data }, { on := 7, ground := Go.Ground.data }], guard := none }) rfl (fun K hK => ?_) AllReadyH.nil)
        go_simp
        have kx : Kept wr (wr.alloc (.cells #[.int .u8 (sg d0).toNat, .int .u8 (sg d1).toNat] 5)).drew := ((Kept.refl wr).alloc _).drew
        have OX := Lib.hid (hO.out.kept kx)
        have KX := Lib.hid (hKw.out.trans kx)
        have BX := Lib.hid (hB.out.kept kx)
        have hbx := (brd_new wr [sg d0, sg d1] 5 #[.int .u8 (sg d0).toNat, .int .u8 (sg d1).toNat] rfl 2 (Nat.le_refl 2) (0, 0)).kept ((Kept.refl _).drew)
        have HBX := Lib.hid hbx
        have hszx := KX.out.size
        clear kx hO hKw hB hbx
        generalize (wr.alloc (.cells #[.int .u8 (sg d0).toNat, .int .u8 (sg d1).toNat] 5)).drew = x at *
        refine Shut.out hK _ _ trivial (fun hSb => ?_)
        clear hK K
        try simp only [Act.put, List.setIfInBounds_toArray, List.set_cons_zero, List.set_cons_succ]
        refine wpAnyH_ready (rs := [9]) (by kernel_rfl) (by simp) (AllReadyH.cons (o := { dst := some 42, op := Go.Op.call { callee := Go.Callee.builtin Go.Builtin.append, args := #[Go.Operand.tmp 33, Go.Operand.tmp 41], argTypes := #[26, 26] }, type := 26, pos := "ref.go:20", after := #[{ on := 0, ground := Go.Ground.data }, { on := 8, ground := Go.Ground.data }], guard := none }) rfl (fun K hK => ?_) AllReadyH.nil)
        rw [if_pos (by rfl)]
        refine wp_sliceB (.tmp 33) (.tmp 41) rfl w.heap.size (.slice ta D.length tc) _ D [sg d0, sg d1] (by rfl) OX.out (by rfl) HBX.out (by simp; omega) hszx ?_
        intro v' z hz hgz
        have KZ := Lib.hid (kept_row KX.out hgz (fun g hg => (World.ownsRow.lt OX.out g hg).1))
        have BZ := Lib.hid (BX.out.grow hgz (fun g hg => (World.ownsRow.lt OX.out g hg).1))
        have OZ := Lib.hid hz
        have HDL := Lib.hid (show (D ++ [sg d0, sg d1]).length ≤ 2000006 by simp; omega)
        have HDD := Lib.hid (show ∀ A C R : B, (((D ++ [sg d0, sg d1]) ++ A) ++ C) ++ R = D ++ (([sg d0, sg d1] ++ (A ++ C)) ++ R) from fun A C R => by simp)
        obtain ⟨za, zc, hzv⟩ := own_slice hz
        subst hzv
        have hszz := KZ.out.size
        clear hz hgz OX KX BX HBX s0 s1 q0 q1 q2 l0 l1
        generalize D ++ [sg d0, sg d1] = D2 at *
        refine Shut.out hK _ _ trivial (fun hSb => ?_)
        clear hK K
        try simp only [Act.put, List.setIfInBounds_toArray, List.set_cons_zero, List.set_cons_succ]
        refine wpAnyH_take (i := 10) (oi := { dst := some 3, op := Go.Op.assign (Go.Operand.tmp 42), type := 26, pos := "ref.go:20", after := #[{ on := 9, ground := Go.Ground.data }, { on := 9, ground := Go.Ground.chain }, { on := 0, ground := Go.Ground.phase }, { on := 1, ground := Go.Ground.phase }, { on := 2, ground := Go.Ground.phase }, { on := 3, ground := Go.Ground.phase }, { on := 4, ground := Go.Ground.phase }, { on := 5, ground := Go.Ground.phase }, { on := 6, ground := Go.Ground.phase }, { on := 7, ground := Go.Ground.phase }, { on := 8, ground := Go.Ground.phase }, { on := 9, ground := Go.Ground.phase }], guard := none }) (v := ?vz10) rfl (by kernel_rfl) (by kernel_rfl) (by kernel_rfl) (fun _ _ _ h => h) (Or.inl ⟨by rfl, ?yz10⟩) (by assumption) ?rz10
        case yz10 => (intro wq hSw; (try dsimp only at hSw); go_simp; try with_reducible rfl)
        simp only [Act.put, List.setIfInBounds_toArray, List.set_cons_zero, List.set_cons_succ]
        refine wpAnyH_done (by kernel_rfl) ?_ _
        clear hSb i0 i1
        by_cases h1 : (i : Int) + 1 < l.length
        · by_cases h2 : (i : Int) + 2 < l.length
          · have HDF := Lib.hid (show ((D2 ++ [sg d2]) ++ [sg d3]) ++ raw (l.drop (i + 3)) = raw l by rw [HDD.out, ← hD.out, HR4.out, if_pos (show 1 < l.length - i by omega), if_pos (show 2 < l.length - i by omega)])
            clear HDD HR4 hD
            have kyp : Kept z (z.alloc (.cells #[.int .u8 (sg d2).toNat] 5)) := (Kept.refl z).alloc _
            have OYp := Lib.hid (OZ.out.kept kyp)
            have KYp := Lib.hid (KZ.out.trans kyp)
            have BYp := Lib.hid (BZ.out.kept kyp)
            have hcyp : (z.alloc (.cells #[.int .u8 (sg d2).toNat] 5)).cell? ⟨z.heap.size, 0, none⟩ = some (.int .u8 (sg d2).toNat) := (Kept.refl _).new 0 rfl
            have hszyp := KYp.out.size
            clear OZ KZ BZ kyp
            go_wp2_with (at_builtin; refine wpList_byteB rfl _ _ rfl w.heap.size (.slice za D2.length zc) D2 (sg d2) z.heap.size rfl OYp.out rfl hcyp (by have := HDL.out; omega) hszyp ?_)
            intro vp z2 hz hgz
            have KZ := Lib.hid (kept_row KYp.out hgz (fun g hg => (World.ownsRow.lt OYp.out g hg).1))
            have BZ := Lib.hid (BYp.out.grow hgz (fun g hg => (World.ownsRow.lt OYp.out g hg).1))
            have OZ := Lib.hid hz
            have HDL := Lib.hid (show (D2 ++ [sg d2]).length ≤ 2000007 by have := HDL.out; simp; omega)
            obtain ⟨ya, yc, hyv⟩ := own_slice hz
            subst hyv
            clear hz hgz OYp KYp BYp hcyp
            generalize D2 ++ [sg d2] = D3 at *
            have kyq : Kept z2 (z2.alloc (.cells #[.int .u8 (sg d3).toNat] 5)) := (Kept.refl z2).alloc _
            have OYq := Lib.hid (OZ.out.kept kyq)
            have KYq := Lib.hid (KZ.out.trans kyq)
            have BYq := Lib.hid (BZ.out.kept kyq)
            have hcyq : (z2.alloc (.cells #[.int .u8 (sg d3).toNat] 5)).cell? ⟨z2.heap.size, 0, none⟩ = some (.int .u8 (sg d3).toNat) := (Kept.refl _).new 0 rfl
            have hszyq := KYq.out.size
            clear OZ KZ BZ kyq
            go_wp2_with (at_builtin; refine wpList_byteB rfl _ _ rfl w.heap.size (.slice ya D3.length yc) D3 (sg d3) z2.heap.size rfl OYq.out rfl hcyq (by have := HDL.out; omega) hszyq ?_)
            intro vq z3 hz hgz
            have KZ := Lib.hid (kept_row KYq.out hgz (fun g hg => (World.ownsRow.lt OYq.out g hg).1))
            have BZ := Lib.hid (BYq.out.grow hgz (fun g hg => (World.ownsRow.lt OYq.out g hg).1))
            have OZ := Lib.hid hz
            clear hz hgz OYq KYq BYq hcyq
            go_wp2_with fail
            go_roundw
            case rel => exact ⟨i + 3, D3 ++ [sg d3], by omega, by go_num, BZ, HDF, KZ, OZ⟩
            case measure => simp [intOf]; omega
          · have HDF := Lib.hid (show ((D2 ++ [sg d2]) ++ [61]) ++ raw (l.drop (i + 3)) = raw l by rw [HDD.out, ← hD.out, HR4.out, if_pos (show 1 < l.length - i by omega), if_neg (show ¬ 2 < l.length - i by omega)])
            clear HDD HR4 hD
            have kyp : Kept z (z.alloc (.cells #[.int .u8 (sg d2).toNat] 5)) := (Kept.refl z).alloc _
            have OYp := Lib.hid (OZ.out.kept kyp)
            have KYp := Lib.hid (KZ.out.trans kyp)
            have BYp := Lib.hid (BZ.out.kept kyp)
            have hcyp : (z.alloc (.cells #[.int .u8 (sg d2).toNat] 5)).cell? ⟨z.heap.size, 0, none⟩ = some (.int .u8 (sg d2).toNat) := (Kept.refl _).new 0 rfl
            have hszyp := KYp.out.size
            clear OZ KZ BZ kyp
            go_wp2_with (at_builtin; refine wpList_byteB rfl _ _ rfl w.heap.size (.slice za D2.length zc) D2 (sg d2) z.heap.size rfl OYp.out rfl hcyp (by have := HDL.out; omega) hszyp ?_)
            intro vp z2 hz hgz
            have KZ := Lib.hid (kept_row KYp.out hgz (fun g hg => (World.ownsRow.lt OYp.out g hg).1))
            have BZ := Lib.hid (BYp.out.grow hgz (fun g hg => (World.ownsRow.lt OYp.out g hg).1))
            have OZ := Lib.hid hz
            have HDL := Lib.hid (show (D2 ++ [sg d2]).length ≤ 2000007 by have := HDL.out; simp; omega)
            obtain ⟨ya, yc, hyv⟩ := own_slice hz
            subst hyv
            clear hz hgz OYp KYp BYp hcyp
            generalize D2 ++ [sg d2] = D3 at *
            have kyq : Kept z2 (z2.alloc (.cells #[.int .u8 (61 : UInt8).toNat] 5)) := (Kept.refl z2).alloc _
            have OYq := Lib.hid (OZ.out.kept kyq)
            have KYq := Lib.hid (KZ.out.trans kyq)
            have BYq := Lib.hid (BZ.out.kept kyq)
            have hcyq : (z2.alloc (.cells #[.int .u8 (61 : UInt8).toNat] 5)).cell? ⟨z2.heap.size, 0, none⟩ = some (.int .u8 (61 : UInt8).toNat) := (Kept.refl _).new 0 rfl
            have hszyq := KYq.out.size
            clear OZ KZ BZ kyq
            go_wp2_with (at_builtin; refine wpList_byteB rfl _ _ rfl w.heap.size (.slice ya D3.length yc) D3 (61 : UInt8) z2.heap.size rfl OYq.out rfl hcyq (by have := HDL.out; omega) hszyq ?_)
            intro vq z3 hz hgz
            have KZ := Lib.hid (kept_row KYq.out hgz (fun g hg => (World.ownsRow.lt OYq.out g hg).1))
            have BZ := Lib.hid (BYq.out.grow hgz (fun g hg => (World.ownsRow.lt OYq.out g hg).1))
            have OZ := Lib.hid hz
            clear hz hgz OYq KYq BYq hcyq
            go_wp2_with fail
            go_roundw
            case rel => exact ⟨i + 3, D3 ++ [61], by omega, by go_num, BZ, HDF, KZ, OZ⟩
            case measure => simp [intOf]; omega
        · by_cases h2 : (i : Int) + 2 < l.length
          · exact absurd h2 (by omega)
          · have HDF := Lib.hid (show ((D2 ++ [61]) ++ [61]) ++ raw (l.drop (i + 3)) = raw l by rw [HDD.out, ← hD.out, HR4.out, if_neg (show ¬ 1 < l.length - i by omega), if_neg (show ¬ 2 < l.length - i by omega)])
            clear HDD HR4 hD
            have kyp : Kept z (z.alloc (.cells #[.int .u8 (61 : UInt8).toNat] 5)) := (Kept.refl z).alloc _
            have OYp := Lib.hid (OZ.out.kept kyp)
            have KYp := Lib.hid (KZ.out.trans kyp)
            have BYp := Lib.hid (BZ.out.kept kyp)
            have hcyp : (z.alloc (.cells #[.int .u8 (61 : UInt8).toNat] 5)).cell? ⟨z.heap.size, 0, none⟩ = some (.int .u8 (61 : UInt8).toNat) := (Kept.refl _).new 0 rfl
            have hszyp := KYp.out.size
            clear OZ KZ BZ kyp
            go_wp2_with (at_builtin; refine wpList_byteB rfl _ _ rfl w.heap.size (.slice za D2.length zc) D2 (61 : UInt8) z.heap.size rfl OYp.out rfl hcyp (by have := HDL.out; omega) hszyp ?_)
            intro vp z2 hz hgz
            have KZ := Lib.hid (kept_row KYp.out hgz (fun g hg => (World.ownsRow.lt OYp.out g hg).1))
            have BZ := Lib.hid (BYp.out.grow hgz (fun g hg => (World.ownsRow.lt OYp.out g hg).1))
            have OZ := Lib.hid hz
            have HDL := Lib.hid (show (D2 ++ [61]).length ≤ 2000007 by have := HDL.out; simp; omega)
            obtain ⟨ya, yc, hyv⟩ := own_slice hz
            subst hyv
            clear hz hgz OYp KYp BYp hcyp
            generalize D2 ++ [61] = D3 at *
            have kyq : Kept z2 (z2.alloc (.cells #[.int .u8 (61 : UInt8).toNat] 5)) := (Kept.refl z2).alloc _
            have OYq := Lib.hid (OZ.out.kept kyq)
            have KYq := Lib.hid (KZ.out.trans kyq)
            have BYq := Lib.hid (BZ.out.kept kyq)
            have hcyq : (z2.alloc (.cells #[.int .u8 (61 : UInt8).toNat] 5)).cell? ⟨z2.heap.size, 0, none⟩ = some (.int .u8 (61 : UInt8).toNat) := (Kept.refl _).new 0 rfl
            have hszyq := KYq.out.size
            clear OZ KZ BZ kyq
            go_wp2_with (at_builtin; refine wpList_byteB rfl _ _ rfl w.heap.size (.slice ya D3.length yc) D3 (61 : UInt8) z2.heap.size rfl OYq.out rfl hcyq (by have := HDL.out; omega) hszyq ?_)
            intro vq z3 hz hgz
            have KZ := Lib.hid (kept_row KYq.out hgz (fun g hg => (World.ownsRow.lt OYq.out g hg).1))
            have BZ := Lib.hid (BYq.out.grow hgz (fun g hg => (World.ownsRow.lt OYq.out g hg).1))
            have OZ := Lib.hid hz
            clear hz hgz OYq KYq BYq hcyq
            go_wp2_with fail
            go_roundw
            case rel => exact ⟨i + 3, D3 ++ [61], by omega, by go_num, BZ, HDF, KZ, OZ⟩
            case measure => simp [intOf]; omega
    · have hltI : ¬ (i : Int) < l.length := by omega
      have HF := Lib.hid (show D = raw l by rw [← hD.out, List.drop_eq_nil_of_le (Nat.le_of_not_lt hlt)]; simp [raw])
      have hcv := hO.out.rd.conv
      clear hD hO
      go_wp2
      go_ret
      exact ⟨by rw [HF.out]; rfl, hKw.out⟩
end Go.Proofs.YtgpocnnolieijaaGreatDoor
/- The document's Bytes. -/
set_option linter.unusedSimpArgs false
set_option linter.unusedVariables false
namespace Go.Proofs.YtgpocnnolieijaaGreatDoor
open Go.ChangeShapes Go.WideShapes Go.ChangeAt Go.RowKit
open Bx
/-- so many signs' number, from a place on -/
def pn4 (s : B) (i : Nat) : Nat → Nat
  | 0 => 0
  | m + 1 => 64 * pn4 s i m + nm (s.getD (i + m) 0)
theorem pn4_lt (s : B) (i : Nat) : ∀ m, pn4 s i m < 64 ^ m
  | 0 => Nat.zero_lt_one
  | m + 1 => by
    have h := pn4_lt s i m
    have h2 := nm_lt (s.getD (i + m) 0)
    rw [Nat.pow_succ]
    simp only [pn4]
    omega
theorem pn4_bd (s : B) (i m : Nat) (h : m ≤ 4) : pn4 s i m < 16777216 := Nat.lt_of_lt_of_le (pn4_lt s i m) (Nat.pow_le_pow_right (by decide) h : 64 ^ m ≤ 64 ^ 4)
theorem ch4 (s : B) (i : Nat) (h : i + 4 ≤ s.length) : ch (s.drop i) = [UInt8.ofNat (pn4 s i 4 / 65536), UInt8.ofNat (pn4 s i 4 / 256 % 256), UInt8.ofNat (pn4 s i 4 % 256)] ++ ch (s.drop (i + 4)) := by
  have e : ∀ j, (hj : i + j < s.length) → s.getD (i + j) 0 = s[i + j]'hj := fun j hj => by simp [List.getD, hj]
  have hn : pn4 s i 4 = num4 (s[i]'(by omega)) (s[i + 1]'(by omega)) (s[i + 2]'(by omega)) (s[i + 3]'(by omega)) := by
    simp only [pn4, num4]
    rw [e 0 (by omega), e 1 (by omega), e 2 (by omega), e 3 (by omega)]
    simp
  rw [hn, List.drop_eq_getElem_cons (show i < s.length by omega), List.drop_eq_getElem_cons (show i + 1 < s.length by omega), List.drop_eq_getElem_cons (show i + 1 + 1 < s.length by omega), List.drop_eq_getElem_cons (show i + 1 + 1 + 1 < s.length by omega), ch]
  rfl
/-- what is left of what was read, so many places from behind being looked at -/
def cutP (s : B) : Nat → B
  | 0 => ch s
  | k + 1 => if isP s (k + 1) = true then (cutP s k).take ((cutP s k).length - 1) else cutP s k
theorem cutP_2 (s : B) : cutP s 2 = cndR s := by
  unfold cndR pds
  simp only [cutP]
  by_cases h1 : isP s 1 = true
  · by_cases h2 : isP s 2 = true
    · simp only [h1, h2, if_true, List.length_take, List.take_take]
      congr 1
      omega
    · simp only [h1, h2, if_true, if_false, Nat.add_zero, Bool.false_eq_true]
  · by_cases h2 : isP s 2 = true
    · simp only [h1, h2, if_true, if_false, Nat.zero_add, Bool.false_eq_true]
    · simp only [h1, h2, if_false, Bool.false_eq_true]
      simp
theorem cutP_len (s : B) : ∀ k, (ch s).length ≤ (cutP s k).length + k ∧ (cutP s k).length ≤ (ch s).length
  | 0 => ⟨Nat.le_refl _, Nat.le_refl _⟩
  | k + 1 => by
    have h := cutP_len s k
    simp only [cutP]
    split
    · simp only [List.length_take]; omega
    · omega
theorem cutP_yes {s : B} {k : Nat} (h : isP s (k + 1) = true) : cutP s (k + 1) = (cutP s k).take ((cutP s k).length - 1) := by simp only [cutP, h, if_true]
theorem cutP_no {s : B} {k : Nat} (h : isP s (k + 1) = false) : cutP s (k + 1) = cutP s k := by simp only [cutP, h, if_false, Bool.false_eq_true]
theorem isP_yes {s : B} {k : Nat} {x : UInt8} (hx : s[s.length - k]? = some x) (h : (x.toNat : Int) = 61) : isP s k = true := by
  have : x = 61 := UInt8.toNat_inj.1 (by rw [show (61 : UInt8).toNat = 61 from rfl]; omega)
  unfold isP
  rw [hx, this]; rfl
theorem isP_no {s : B} {k : Nat} {x : UInt8} (hx : s[s.length - k]? = some x) (h : ¬ (x.toNat : Int) = 61) : isP s k = false := by
  unfold isP
  rw [hx]
  exact decide_eq_false (fun e => h (by cases e; rfl))
theorem isP_short {s : B} {k : Nat} (h : s.length % 4 = 0) (hk : k ≤ 4) (hs : ¬ k ≤ s.length) : isP s k = false := by
  obtain rfl : s = [] := List.length_eq_zero_iff.1 (by omega)
  exact decide_eq_false (fun e => by simp at e)
/-- fewer of the bytes -/
theorem BRd.to {g o n c : Nat} {l : B} {w : World} (h : BRd (.slice (some ⟨g, o, none⟩) n c) l w) (j : Nat) (hj : j ≤ l.length) : BRd (.slice (some ⟨g, o, none⟩) j c) (l.take j) w := by
  obtain ⟨a, c', hv, _, h⟩ := h
  cases hv
  have hlen : (l.take j).length = j := by simp; omega
  refine ⟨some ⟨g, o, none⟩, c, by rw [hlen], fun e => (by cases e), fun hne => ?_⟩
  obtain ⟨g', o', ha, hc, h⟩ := h (by rintro rfl; simp at hne)
  cases ha
  refine ⟨g, o, rfl, by rw [hlen]; omega, fun k x hx => ?_⟩
  rw [List.getElem?_take] at hx
  split at hx
  · exact h _ _ hx
  · cases hx
set_option maxRecDepth 100000 in
set_option maxHeartbeats 4000000 in
theorem rbytes_any (s : B) (w : World) (hl : s.length ≤ 1000000) : Calls Tryz.prog 127 #[sV s] w fun e w' => ∃ xv, e = .returned xv ∧ BytR w.heap.size s xv w' ∧ Kept w w' := by
  have hss : (ByteArray.mk s.toArray).size = s.length := List.size_toArray
  by_cases h4 : s.length % 4 = 0
  · have h4I : (s.length : Int) % 4 = 0 := by omega
    have HLE := Lib.hid (show (ch s).length ≤ 750000 by rw [ch_len]; omega)
    have HC4 := Lib.hid (ch4 s)
    go_enter Tryz.func127, Tryz.ntmps127
    go_upto_block 0 with (fail)
    clear h4I
    go_cut [4, 5, 6, 7] from 9 (fun vo vi vn vk wx => Hid (Kept w wx) ∧ Hid (OwnB w.heap.size vo (ch s) wx))
    case first =>
      go_wp2_with fail
      go_loopw [4, 5] (fun vm vi wr => ∃ (i : Nat) (D : B), i ≤ s.length ∧ i % 4 = 0 ∧ vi = .int .i64 i ∧ Hid (D ++ ch (s.drop i) = ch s) ∧ Hid (Kept w wr) ∧ Hid (OwnB w.heap.size vm D wr)) (fun _ vi _ => s.length - (intOf vi).toNat)
      case atStart => exact ⟨0, [], Nat.zero_le _, rfl, rfl, Lib.hid rfl, Lib.hid (Kept.refl w), Lib.hid (OwnB.nil _ _)⟩
      case round =>
        obtain ⟨i, D, hi, hi4, rfl, hD, hK, hO⟩ := hrel
        obtain ⟨ta, tc, htv⟩ := own_slice hO.out
        have hDl := len_le hD.out
        have hDl := Nat.le_trans hDl HLE.out
        subst htv
        by_cases hlt : i < s.length
        · have hltI : (i : Int) < s.length := by omega
          have hi5 : i + 4 ≤ s.length := by omega
          go_upto_block 2 with (fail)
          go_cut [6, 7] from 13 to 45 (fun vn vk wx => vn = .int .i64 (pn4 s i 4) ∧ Hid (Kept wr wx))
          case first =>
            clear hD HLE hO HC4
            go_wp2_with fail
            go_loopw [6, 7] (fun vn vk wx => ∃ k : Nat, i ≤ k ∧ k ≤ i + 4 ∧ vn = .int .i64 (pn4 s i (k - i)) ∧ vk = .int .i64 k ∧ Hid (Kept wr wx)) (fun _ vk _ => i + 4 - (intOf vk).toNat)
            case atStart => exact ⟨i, Nat.le_refl _, by omega, by simp [pn4], rfl, Lib.hid (Kept.refl _)⟩
            case round =>
              obtain ⟨k, hk1, hk2, rfl, rfl, hKK⟩ := hrel
              by_cases hk3 : k < i + 4
              · have hk3I : (k : Int) < (i : Int) + 4 := by omega
                have hbd := pn4_bd s i (k - i) (by omega)
                obtain ⟨x, hx⟩ : ∃ x, s[k]? = some x := ⟨_, List.getElem?_eq_getElem (by omega)⟩
                have hS : pn4 s i (k + 1 - i) = 64 * pn4 s i (k - i) + nm x := by
                  rw [show k + 1 - i = (k - i) + 1 by omega, pn4, show i + (k - i) = k by omega, show s.getD k 0 = x by simp [List.getD, hx]]
                have hat := byte_at s k x hx
                have hks : (k : Int) < s.length := by omega
                have hxl := nm_lt x
                have HN := Lib.hid (number_any x)
                clear hx
                generalize pn4 s i (k - i) = n at *
                generalize nm x = q at *
                go_wp2_with fail
                refine (HN.out _).mono ?_
                rintro e y ⟨rfl, ky⟩
                have KY := Lib.hid (hKK.out.trans ky)
                clear ky HN hKK
                go_wp2_with fail
                go_roundw
                case rel => exact ⟨k + 1, by omega, by omega, by rw [hS]; go_num, by go_num, KY⟩
                case measure => simp [intOf]; omega
              · have hk3I : ¬ (k : Int) < (i : Int) + 4 := by omega
                have hke : k - i = 4 := by omega
                rw [hke]
                go_wp2
                go_meet
                case rel => exact ⟨rfl, hKK⟩
          case rest =>
            obtain ⟨rfl, hkc⟩ := hcut
            have hbd := pn4_bd s i 4 (by decide)
            have HC := Lib.hid (HC4.out i hi5)
            generalize pn4 s i 4 = n at *
            have a0 := @UInt8.toNat_ofNat' (n / 65536)
            have a1 := @UInt8.toNat_ofNat' (n / 256 % 256)
            have a2 := @UInt8.toNat_ofNat' (n % 256)
            have b0 : (n : Int) / 65536 = ((UInt8.ofNat (n / 65536)).toNat : Int) := by rw [a0]; omega
            have b1 : (n : Int) / 256 % 256 = ((UInt8.ofNat (n / 256 % 256)).toNat : Int) := by rw [a1]; omega
            have b2 : (n : Int) % 256 = ((UInt8.ofNat (n % 256)).toNat : Int) := by rw [a2]; omega
            clear a0 a1 a2
            generalize UInt8.ofNat (n / 65536) = x0 at *
            generalize UInt8.ofNat (n / 256 % 256) = x1 at *
            generalize UInt8.ofNat (n % 256) = x2 at *
            have kx : Kept wc (wc.alloc (.cells #[.int .u8 x0.toNat, .int .u8 x1.toNat, .int .u8 x2.toNat] 5)) := (Kept.refl wc).alloc _
            have OX := Lib.hid (hO.out.kept (hkc.out.trans kx))
            have KX := Lib.hid (hK.out.trans (hkc.out.trans kx))
            have HBX := Lib.hid (brd_new wc [x0, x1, x2] 5 #[.int .u8 x0.toNat, .int .u8 x1.toNat, .int .u8 x2.toNat] rfl 3 (Nat.le_refl 3) (0, 0))
            have hszx := KX.out.size
            have HD2 := Lib.hid (show (D ++ [x0, x1, x2]) ++ ch (s.drop (i + 4)) = ch s by rw [← hD.out, HC.out, List.append_assoc])
            clear hD hO hK hkc kx HC HC4
            go_wp2_with (at_builtin; refine wpList_sliceB rfl _ _ rfl w.heap.size (.slice ta D.length tc) _ D [x0, x1, x2] rfl OX.out rfl HBX.out (by simp; omega) hszx ?_)
            intro v' z hz hgz
            have KZ := Lib.hid (kept_row KX.out hgz (fun g hg => (World.ownsRow.lt OX.out g hg).1))
            have OZ := Lib.hid hz
            clear hz hgz OX KX HBX
            go_wp2_with fail
            go_roundw
            case rel => exact ⟨i + 4, D ++ [x0, x1, x2], hi5, by omega, by go_num, HD2, KZ, OZ⟩
            case measure => simp [intOf]; omega
        · have hltI : ¬ (i : Int) < s.length := by omega
          have HF := Lib.hid (show D = ch s by rw [← hD.out, List.drop_eq_nil_of_le (Nat.le_of_not_lt hlt), ch_nil, List.append_nil])
          clear hD
          go_wp2
          go_meet
          case rel => exact ⟨hK, Lib.hid (by rw [← HF.out]; exact hO.out)⟩
    case rest =>
      obtain ⟨hK, hO⟩ := hcut
      clear HC4
      obtain ⟨ta, tc, htv⟩ := own_slice hO.out
      subst htv
      have hcl := HLE.out
      have hchl := ch_len s
      go_upto_block 4 with (fail)
      go_cut [4, 8] from 46 (fun vo vk wx => Hid (Kept w wx) ∧ Hid (OwnB w.heap.size vo (cutP s 2) wx))
      case first =>
        go_wp2_with fail
        go_loopw [4, 8] (fun vo vk wr => ∃ k : Nat, 1 ≤ k ∧ k ≤ 3 ∧ vk = .int .i64 k ∧ Hid (Kept w wr) ∧ Hid (OwnB w.heap.size vo (cutP s (k - 1)) wr)) (fun _ vk _ => 3 - (intOf vk).toNat)
        case atStart => exact ⟨1, Nat.le_refl _, by decide, rfl, hK, hO⟩
        case round =>
          obtain ⟨k, hk1, hk3, rfl, hK, hO⟩ := hrel
          obtain rfl | rfl | rfl : k = 1 ∨ k = 2 ∨ k = 3 := by omega
          · rw [show 1 - 1 = 0 from rfl] at hO
            by_cases hsk : 1 ≤ s.length
            · have hskI : (1 : Int) ≤ s.length := by omega
              obtain ⟨x, hx⟩ : ∃ x, s[s.length - 1]? = some x := ⟨_, List.getElem?_eq_getElem (by omega)⟩
              have hat := byte_at s (s.length - 1) x hx
              have hle := cutP_len s 0
              by_cases h61 : (x.toNat : Int) = 61
              · have HS := Lib.hid (cutP_yes (k := 0) (isP_yes hx h61))
                rw [UInt8.toNat_inj.1 (show x.toNat = (61 : UInt8).toNat by rw [show (61 : UInt8).toNat = 61 from rfl]; omega)] at hat
                clear hx h61
                generalize cutP s 0 = D at *
                have hDn : D.length ≠ 0 := by omega
                obtain ⟨g, cp, hv, hcp, _⟩ := own_some hO.out hDn
                subst hv
                have HBR := Lib.hid (hO.out.rd.to (D.length - 1) (by omega))
                have hD1 : ((D.length - 1 : Nat) : Int) = (D.length : Int) - 1 := by omega
                have htl : (D.take (D.length - 1)).length = D.length - 1 := by simp
                have hcpI : (D.length : Int) ≤ cp := by omega
                have hDL : D.length ≤ 750000 := by omega
                have hszw := hK.out.size
                go_wp2_with (at_builtin; refine wpList_sliceB rfl _ _ rfl w.heap.size (.slice none 0 0) _ [] (D.take (D.length - 1)) rfl (OwnB.nil _ _) rfl HBR.out (by rw [htl]; simp; omega) hszw ?_)
                intro v' z hz hgz
                have KZ := Lib.hid (kept_row hK.out hgz (fun g hg => (by cases hg)))
                have hz : OwnB w.heap.size v' (D.take (D.length - 1)) z := hz
                rw [← HS.out] at hz
                have OZ := Lib.hid hz
                clear hz hgz HBR HS
                go_wp2_with fail
                go_roundw
                case rel => exact ⟨2, by decide, by decide, rfl, KZ, OZ⟩
                case measure => simp [intOf]
              · have HS := Lib.hid (cutP_no (k := 0) (isP_no hx h61))
                have h61b : ((x.toNat : Int) == 61) = false := beq_eq_false_iff_ne.2 h61
                clear hx h61
                go_wp2_with fail
                go_roundw
                case rel => exact ⟨2, by decide, by decide, rfl, hK, Lib.hid (by rw [show 2 - 1 = 0 + 1 from rfl, HS.out]; exact hO.out)⟩
                case measure => simp [intOf]
            · have HS := Lib.hid (cutP_no (k := 0) (isP_short h4 (by decide) hsk))
              have hskI : ¬ (1 : Int) ≤ s.length := by omega
              clear hsk
              go_wp2_with fail
              go_roundw
              case rel => exact ⟨2, by decide, by decide, rfl, hK, Lib.hid (by rw [show 2 - 1 = 0 + 1 from rfl, HS.out]; exact hO.out)⟩
              case measure => simp [intOf]
          · rw [show 2 - 1 = 1 from rfl] at hO
            by_cases hsk : 2 ≤ s.length
            · have hskI : (2 : Int) ≤ s.length := by omega
              obtain ⟨x, hx⟩ : ∃ x, s[s.length - 2]? = some x := ⟨_, List.getElem?_eq_getElem (by omega)⟩
              have hat := byte_at s (s.length - 2) x hx
              have hle := cutP_len s 1
              by_cases h61 : (x.toNat : Int) = 61
              · have HS := Lib.hid (cutP_yes (k := 1) (isP_yes hx h61))
                rw [UInt8.toNat_inj.1 (show x.toNat = (61 : UInt8).toNat by rw [show (61 : UInt8).toNat = 61 from rfl]; omega)] at hat
                clear hx h61
                generalize cutP s 1 = D at *
                have hDn : D.length ≠ 0 := by omega
                obtain ⟨g, cp, hv, hcp, _⟩ := own_some hO.out hDn
                subst hv
                have HBR := Lib.hid (hO.out.rd.to (D.length - 1) (by omega))
                have hD1 : ((D.length - 1 : Nat) : Int) = (D.length : Int) - 1 := by omega
                have htl : (D.take (D.length - 1)).length = D.length - 1 := by simp
                have hcpI : (D.length : Int) ≤ cp := by omega
                have hDL : D.length ≤ 750000 := by omega
                have hszw := hK.out.size
                go_wp2_with (at_builtin; refine wpList_sliceB rfl _ _ rfl w.heap.size (.slice none 0 0) _ [] (D.take (D.length - 1)) rfl (OwnB.nil _ _) rfl HBR.out (by rw [htl]; simp; omega) hszw ?_)
                intro v' z hz hgz
                have KZ := Lib.hid (kept_row hK.out hgz (fun g hg => (by cases hg)))
                have hz : OwnB w.heap.size v' (D.take (D.length - 1)) z := hz
                rw [← HS.out] at hz
                have OZ := Lib.hid hz
                clear hz hgz HBR HS
                go_wp2_with fail
                go_roundw
                case rel => exact ⟨3, by decide, by decide, rfl, KZ, OZ⟩
                case measure => simp [intOf]
              · have HS := Lib.hid (cutP_no (k := 1) (isP_no hx h61))
                have h61b : ((x.toNat : Int) == 61) = false := beq_eq_false_iff_ne.2 h61
                clear hx h61
                go_wp2_with fail
                go_roundw
                case rel => exact ⟨3, by decide, by decide, rfl, hK, Lib.hid (by rw [show 3 - 1 = 1 + 1 from rfl, HS.out]; exact hO.out)⟩
                case measure => simp [intOf]
            · have HS := Lib.hid (cutP_no (k := 1) (isP_short h4 (by decide) hsk))
              have hskI : ¬ (2 : Int) ≤ s.length := by omega
              clear hsk
              go_wp2_with fail
              go_roundw
              case rel => exact ⟨3, by decide, by decide, rfl, hK, Lib.hid (by rw [show 3 - 1 = 1 + 1 from rfl, HS.out]; exact hO.out)⟩
              case measure => simp [intOf]
          · go_wp2
            go_meet
            case rel => exact ⟨hK, hO⟩
      case rest =>
        obtain ⟨hK, hO⟩ := hcut
        rw [cutP_2] at hO
        have HY := Lib.hid (fun hq => byt_R (s := s) hq)
        have HL2 := Lib.hid (show (cndR s).length ≤ 750000 by have := cutP_len s 2; rw [cutP_2] at this; omega)
        generalize cndR s = z at *
        have HZ := Lib.hid hO.out.rd
        obtain ⟨ta, tc, htv⟩ := own_slice hO.out
        subst htv
        go_wp2_with fail
        refine (rraw_any _ z wc HZ.out (by have := HL2.out; omega)).mono ?_
        rintro e x2 ⟨rfl, k2⟩
        have K2 := Lib.hid (hK.out.trans k2)
        have O2 := Lib.hid (hO.out.kept k2)
        clear k2 hO HZ hK
        by_cases hz : raw z = s
        · have HB := Lib.hid (byt_some hz)
          rw [hz]
          go_wp2
          go_ret2
          exact ⟨_, rfl, BytR.some HB.out O2.out, K2.out⟩
        · have HB := Lib.hid (HY.out hz)
          have hq : (raw z == s) = false := beq_eq_false_iff_ne.2 hz
          clear HY hz
          generalize raw z = q at *
          go_wp2
          go_ret2
          exact ⟨_, rfl, BytR.none HB.out _, K2.out⟩
  · have h4I : (((s.length : Int) % 4) == 0) = false := beq_eq_false_iff_ne.2 (by omega)
    have HB := Lib.hid (byt_4 h4)
    go_enter Tryz.func127, Tryz.ntmps127
    go_wp2
    go_ret2
    exact ⟨_, rfl, BytR.none HB.out _, Kept.refl _⟩
end Go.Proofs.YtgpocnnolieijaaGreatDoor
/- Package head: All; how many bytes headers have. -/
set_option linter.unusedSimpArgs false
set_option linter.unusedVariables false
namespace Go.Proofs.YtgpocnnolieijaaGreatDoor.Hd
open Go.ChangeShapes Go.WideShapes Go.ChangeAt Go.RowKit Go.Shelf
/-- All's error -/
def aE (l : List Hdr) : Int := if 50 < l.length then 4 else if l.all okH = true then 0 else 1
theorem aE_ok {l : List Hdr} (h : okA l = true) : aE l = 0 := by
  obtain ⟨h1, h2⟩ := okA_all h
  unfold aE
  rw [if_neg (by omega), if_pos (by rw [List.all_eq_true]; exact h1)]
theorem aE_long {l : List Hdr} (h : 50 < l.length) : aE l = 4 ∧ all l = none := by
  refine ⟨if_pos h, ?_⟩
  unfold all okA
  rw [decide_eq_false (by omega), Bool.and_false]; rfl
theorem aE_bad {l : List Hdr} (h : ¬ 50 < l.length) {k : Nat} {x : Hdr} (hx : l[k]? = some x) (hk : okH x = false) : aE l = 1 ∧ all l = none := by
  have : l.all okH = false := by rw [List.all_eq_false]; exact ⟨x, List.mem_of_getElem? hx, by rw [hk]; decide⟩
  unfold aE all okA
  rw [if_neg h, this]
  exact ⟨rfl, rfl⟩
theorem lns_take {l : List Hdr} {k : Nat} {x : Hdr} (h : l[k]? = some x) : lns (l.take (k + 1)) = lns (l.take k) ++ lnH x := by
  unfold lns
  rw [List.take_add_one, h, List.flatMap_append]; simp
theorem allh_take {l : List Hdr} {k : Nat} {x : Hdr} (h : ∀ j y, j < k → l[j]? = some y → okH y = true) (hx : l[k]? = some x) (hp : okH x = true) : ∀ j y, j < k + 1 → l[j]? = some y → okH y = true := by
  intro j y hj hy
  by_cases q : j = k
  · subst q; rw [hx] at hy; cases hy; exact hp
  · exact h j y (by omega) hy
theorem allh_end {l : List Hdr} (h : ∀ j y, j < l.length → l[j]? = some y → okH y = true) : ∀ x ∈ l, okH x = true := by
  intro x hx
  obtain ⟨i, hi, rfl⟩ := List.mem_iff_getElem.1 hx
  exact h i _ hi (List.getElem?_eq_getElem hi)
theorem lnH_big {h : Hdr} (hk : okH h = true) : (lnH h).length ≤ 76046 := by
  have := lnH_len h
  obtain ⟨h1, h2⟩ := okH_nam hk
  have := (nam_all h1).2.2
  omega
set_option maxRecDepth 100000 in
set_option maxHeartbeats 4000000 in
theorem all_any (v : Value) (l : List Hdr) (w : World) (hR : HRd v l w) (hE : Env w) (hb : ∀ h ∈ l, h.1.length ≤ 100000000 ∧ h.2.length ≤ 100000000) :
    Calls Tryz.prog 40 #[v] w fun e w' => ∃ xv, e = .returned (.tuple #[xv, .int .i64 (aE l)]) ∧ OwnM w.heap.size xv ((all l).getD []) w' ∧ Kept w w' := by
  obtain ⟨va, vc, hvv⟩ := hR.slice
  subst hvv
  have HR := Lib.hid hR
  have HE := Lib.hid hE
  have HB := Lib.hid hb
  clear hR hE hb
  by_cases hlong : 50 < l.length
  · have hlI : (50 : Int) < l.length := by omega
    have HQ := Lib.hid (aE_long hlong)
    go_enter Tryz.func40, Tryz.ntmps40
    go_wp2
    go_ret2
    exact ⟨_, by rw [HQ.out.1]; rfl, by rw [HQ.out.2]; exact OwnM.nil _ _, Kept.refl _⟩
  · have hlI : ¬ (50 : Int) < l.length := by omega
    go_enter Tryz.func40, Tryz.ntmps40
    go_wp2_with fail
    go_loopw [4, 6, 7, 8, 14] (fun vm _ _ _ vi wr => ∃ i : Nat, i ≤ l.length ∧ vi = .int .i64 i ∧ Hid (∀ j y, j < i → l[j]? = some y → okH y = true) ∧ Hid (Kept w wr) ∧ Hid (OwnM w.heap.size vm (lns (l.take i)) wr)) (fun _ _ _ _ vi _ => l.length - (intOf vi).toNat)
    case atStart => exact ⟨0, Nat.zero_le _, rfl, Lib.hid (fun j y h => absurd h (Nat.not_lt_zero _)), Lib.hid (Kept.refl w), Lib.hid (OwnM.nil _ _)⟩
    case round =>
      obtain ⟨i, hi, rfl, hA, hK, hO⟩ := hrel
      obtain ⟨ta, tc, htv⟩ := hO.out.slice
      have hll : (lns (l.take i)).length ≤ 4000000 := by
        have := lns_len 76046 (l.take i) (fun h hh => by
          obtain ⟨j, hj, rfl⟩ := List.mem_iff_getElem.1 hh
          rw [List.getElem_take]
          exact lnH_big (hA.out j _ (by simp at hj; omega) (List.getElem?_eq_getElem (by simp at hj; omega))))
        have h2 : (l.take i).length * 76046 ≤ 50 * 76046 := Nat.mul_le_mul_right _ (by simp; omega)
        omega
      by_cases hlt : i < l.length
      · have hltI : (i : Int) < l.length := by omega
        obtain ⟨x, hx⟩ : ∃ x, l[i]? = some x := ⟨_, List.getElem?_eq_getElem hlt⟩
        obtain ⟨g, o, c, hv', hcp, c0, c1⟩ := (HR.out.kept hK.out).at hx
        obtain ⟨xn, xt⟩ := x
        simp only at c0 c1
        injection hv' with ea _ ec
        subst ea ec
        have HX := Lib.hid hx
        have HN := Lib.hid (lns_take hx)
        obtain ⟨hb1, hb2⟩ := HB.out _ (List.mem_of_getElem? hx)
        simp only at hb1 hb2
        have hsz := hK.out.size
        clear hx
        generalize lns (l.take i) = D at *
        subst htv
        have k1 := (Kept.refl wr).alloc (.cells #[sV xn, sV xt] 68)
        have d0 := (Kept.refl (wr.alloc (.cells #[sV xn, sV xt] 68))).new 0 (v := sV xn) rfl
        have d1 := (Kept.refl (wr.alloc (.cells #[sV xn, sV xt] 68))).new 1 (v := sV xt) rfl
        have K1 := Lib.hid (hK.out.trans k1)
        have O1 := Lib.hid (hO.out.kept k1)
        clear hK hO k1
        go_upto_region 7 with (fail)
        generalize wr.alloc (.cells #[sV xn, sV xt] 68) = y at *
        clear c0 c1
        go_wp2_with fail
        refine (line_any (xn, xt) _ (HE.out.kept K1.out) hb1 hb2).mono ?_
        rintro e z ⟨xv, rfl, hxo, kz⟩
        have KZ := Lib.hid (K1.out.trans kz)
        have OZ := Lib.hid (O1.out.kept kz)
        clear d0 d1 kz K1 O1
        cases hk : okH (xn, xt) with
        | false =>
          have HQ := Lib.hid (aE_bad hlong HX.out hk)
          rw [lE_no hk]
          obtain ⟨xa, xc, hxv⟩ := hxo.slice
          subst hxv
          clear hxo hk
          go_wp2
          go_ret2
          exact ⟨_, by rw [HQ.out.1]; rfl, by rw [HQ.out.2]; exact OwnM.nil _ _, KZ.out⟩
        | true =>
          have HA2 := Lib.hid (allh_take hA.out HX.out hk)
          rw [line_lnH hk, Option.getD_some] at hxo
          rw [lE_ok hk]
          have hlb := lnH_big hk
          have HXO := Lib.hid hxo.rd
          obtain ⟨xa, xc, hxv⟩ := hxo.slice
          clear hxo hk
          generalize lnH (xn, xt) = ln at *
          subst hxv
          have hszz := KZ.out.size
          go_wp2_with (at_builtin; refine wpList_sliceM rfl _ _ rfl w.heap.size _ _ D ln rfl OZ.out rfl HXO.out (by omega) hszz ?_)
          intro v4 z4 hz hgz hnb
          have K4 := Lib.hid (kept_row KZ.out hgz (fun g hg => (OZ.out.lt g hg).1))
          have O4 := Lib.hid (show OwnM w.heap.size v4 (lns (l.take (i + 1))) z4 by rw [HN.out]; exact hz)
          clear hz hgz hnb OZ KZ HXO
          go_wp2_with fail
          go_roundw
          case rel => exact ⟨i + 1, hlt, by go_num, HA2, K4, O4⟩
          case measure => simp [intOf]; omega
      · have hltI : ¬ (i : Int) < l.length := by omega
        obtain rfl : i = l.length := by omega
        rw [List.take_length] at hO hll htv
        have hok := allh_end hA.out
        have hkA : okA l = true := by unfold okA; rw [Bool.and_eq_true, List.all_eq_true]; exact ⟨hok, by simp; omega⟩
        have HQ := Lib.hid (And.intro (aE_ok hkA) (all_lnA hkA))
        have HD := Lib.hid (show lnA l = lns l ++ [13, 10] from rfl)
        clear hok hkA hA
        generalize lns l = D at *
        subst htv
        have hszz := hK.out.size
        go_wp2_with (at_builtin; refine wpList_strM rfl _ _ rfl w.heap.size _ D [13, 10] rfl hO.out rfl (by simp; omega) hszz ?_)
        intro v4 z4 hz hgz hnb
        have K4 := Lib.hid (kept_row hK.out hgz (fun g hg => (hO.out.lt g hg).1))
        obtain ⟨a4, c4, hv4⟩ := hz.slice
        have O4 := Lib.hid hz
        clear hz hgz hnb
        generalize D ++ [13, 10] = D2 at *
        subst hv4
        go_wp2
        go_ret2
        exact ⟨_, by rw [HQ.out.1]; rfl, by rw [HQ.out.2, Option.getD_some, HD.out]; exact O4.out, K4.out⟩
set_option maxRecDepth 100000 in
set_option maxHeartbeats 4000000 in
theorem hasPrefix_any (v u : Value) (l p : B) (w : World) (hv : BRd v l w) (hu : BRd u p w) (hp : p ≠ []) (hl : l.length ≤ 1000000000) (hpl : p.length ≤ 100) :
    Calls Tryz.prog 83 #[v, u] w fun e w' => e = .returned (.bool (p.isPrefixOf l)) ∧ Kept w w' := by
  have hpp := List.length_pos_iff.2 hp
  obtain ⟨va, vc, hvv⟩ := hv.slice
  obtain ⟨ua, uc, huv⟩ := hu.slice
  have HV := Lib.hid hv
  have HU := Lib.hid hu
  subst huv
  by_cases h : (p.length : Int) ≤ l.length
  · obtain ⟨g, o, rfl⟩ : ∃ g o, va = some ⟨g, o, none⟩ := by
      obtain ⟨x, hx⟩ : ∃ x, l[0]? = some x := ⟨_, List.getElem?_eq_getElem (by omega)⟩
      obtain ⟨g, o, c, h, _⟩ := hv.at hx
      rw [hvv] at h
      injection h with h
      exact ⟨g, o, h⟩
    subst hvv
    have HT := Lib.hid (hv.to p.length (by omega))
    have hcl : l.length ≤ vc := by
      obtain ⟨_, _, hw, _, hq⟩ := hv
      obtain ⟨_, _, ha, hc, _⟩ := hq (fun e => by rw [e, List.length_nil] at h; omega)
      cases hw; exact hc
    have hE := Lib.hid (fun w' (k : Kept w w') => equal_any _ _ (l.take p.length) p w' (HT.out.kept k) (HU.out.kept k))
    have hb : (l.take p.length == p) = p.isPrefixOf l := by
      rw [Bool.eq_iff_iff, beq_iff_eq, List.isPrefixOf_iff_prefix, List.prefix_iff_eq_take]
      exact eq_comm
    have htl : (l.take p.length).length = p.length := by simp; omega
    rw [hb] at hE
    have HR := Lib.hid hE.out
    clear hv hu hE hb HT htl
    generalize p.isPrefixOf l = q at *
    go_enter Tryz.func83, Tryz.ntmps83
    go_wp2_with fail
    refine (HR.out _ (Kept.refl _)).mono ?_
    rintro e y ⟨rfl, rfl⟩
    go_wp2
    go_ret
    exact ⟨rfl, Kept.refl _⟩
  · have hb : p.isPrefixOf l = false := by
      rw [Bool.eq_false_iff]
      intro e
      rw [List.isPrefixOf_iff_prefix] at e
      have := e.length_le; omega
    rw [hb]
    subst hvv
    clear hv hu hb
    go_enter Tryz.func83, Tryz.ntmps83
    go_wp2
    go_ret
    exact ⟨rfl, Kept.refl _⟩
end Go.Proofs.YtgpocnnolieijaaGreatDoor.Hd
/- The document's answer for package head: words, a header's lines, all lines; are lists the same. -/
set_option linter.unusedSimpArgs false
set_option linter.unusedVariables false
namespace Go.Proofs.YtgpocnnolieijaaGreatDoor.Hd
open Go.ChangeShapes Go.WideShapes Go.ChangeAt Go.RowKit Go.Shelf
open Bx (raw)
/-! the document's Split -/
/-- what is left to cut, a piece begun -/
def cutF (c : UInt8) (cur : List UInt8) : List UInt8 → List (List UInt8)
  | [] => [cur]
  | b :: r => if b = c then cur :: cutF c [] r else cutF c (cur ++ [b]) r
theorem cutF_eq (c : UInt8) : ∀ (l cur : List UInt8), c ∉ cur → cutF c cur l = splt c (cur ++ l)
  | [], cur, h => by rw [cutF, List.append_nil, splt_none cur h]
  | b :: r, cur, h => by
    rw [cutF]
    by_cases hb : b = c
    · subst hb
      rw [if_pos rfl, splt_app cur r h, cutF_eq b r [] (by simp)]; rfl
    · rw [if_neg hb, cutF_eq c r (cur ++ [b]) (by simp; exact ⟨h, fun e => hb e.symm⟩)]
      simp
theorem cutF_splt (c : UInt8) (l : List UInt8) : cutF c [] l = splt c l := cutF_eq c l [] (by simp)
theorem cutF_step {c : UInt8} {cur l : List UInt8} {k : Nat} {b : UInt8} (h : l[k]? = some b) : cutF c cur (l.drop k) = if b = c then cur :: cutF c [] (l.drop (k + 1)) else cutF c (cur ++ [b]) (l.drop (k + 1)) := by
  have : l.drop k = b :: l.drop (k + 1) := by
    obtain ⟨hk, rfl⟩ := List.getElem?_eq_some_iff.1 h
    exact List.drop_eq_getElem_cons hk
  rw [this, cutF]
theorem stretch_snoc {l : List UInt8} {i k : Nat} {b : UInt8} (hi : i ≤ k) (h : l[k]? = some b) : (l.drop i).take (k + 1 - i) = (l.drop i).take (k - i) ++ [b] := by
  rw [show k + 1 - i = (k - i) + 1 by omega, List.take_add_one, List.getElem?_drop, show i + (k - i) = k by omega, h]; rfl
theorem stretch_end {c : UInt8} {l : List UInt8} {i k : Nat} (hk : k = l.length) : cutF c ((l.drop i).take (k - i)) (l.drop k) = [(l.drop i).take (k - i)] := by
  rw [show l.drop k = [] from List.drop_eq_nil_of_le (by omega), cutF]
set_option maxRecDepth 100000 in
set_option maxHeartbeats 4000000 in
theorem rsplit_any (c : UInt8) (l : B) (w : World) (hl : l.length ≤ 1000000) : Calls Tryz.prog 94 #[sV l, .int .u8 c.toNat] w fun e w' => ∃ v, e = .returned v ∧ OwnS w.heap.size v (splt c l) w' ∧ Kept w w' := by
  have hsz : (ByteArray.mk l.toArray).size = l.length := List.size_toArray
  go_enter Tryz.func94, Tryz.ntmps94
  go_wp2_with fail
  go_loopw [5, 6, 7] (fun a i j y => ∃ (k s : Nat) (done : List B), s ≤ k ∧ k ≤ l.length + 1 ∧ i = .int .i64 s ∧ j = .int .i64 k ∧ done.length ≤ k ∧ Hid (k ≤ l.length → splt c l = done ++ cutF c ((l.drop s).take (k - s)) (l.drop k)) ∧ Hid (k = l.length + 1 → splt c l = done) ∧ Hid (OwnS w.heap.size a done y) ∧ Hid (Kept w y)) (fun _ _ j _ => l.length + 1 - (intOf j).toNat)
  case atStart => exact ⟨0, 0, [], Nat.le_refl _, by omega, rfl, rfl, by simp, Lib.hid (fun _ => by simp [cutF_splt]), Lib.hid (fun e => by omega), Lib.hid (OwnS.nil _ _), Lib.hid (Kept.refl _)⟩
  case round =>
    obtain ⟨k, s, done, hsk, hk, rfl, rfl, hdl, hc, hce, hO, hK⟩ := hrel
    obtain ⟨va, vc, hvv⟩ := own_slice hO.out
    subst hvv
    by_cases hle : k ≤ l.length
    · have hcb := cut_both l s k hsk hle
      rw [List.drop_take] at hcb
      have hkp : (Kept.refl wr).alloc (.cells #[sV ((l.drop s).take (k - s))] 9) = (Kept.refl wr).alloc (.cells #[sV ((l.drop s).take (k - s))] 9) := rfl
      have hal := (Kept.refl wr).alloc (.cells #[sV ((l.drop s).take (k - s))] 9)
      have hc1 := (Kept.refl (wr.alloc (.cells #[sV ((l.drop s).take (k - s))] 9))).new 0 (v := sV ((l.drop s).take (k - s))) rfl
      have O1 := Lib.hid (OwnS.kept hO.out hal)
      have K1 := Lib.hid (hK.out.trans hal)
      have hB1 := K1.out.size
      clear hkp hal
      by_cases hend : k = l.length
      · have hkI : (k : Int) = l.length := by omega
        have HC := Lib.hid (show splt c l = done ++ [(l.drop s).take (k - s)] by rw [hc.out hle, stretch_end hend])
        clear hc hce
        generalize (l.drop s).take (k - s) = pc at *
        subst hend
        clear hkI
        go_wp2_with (at_builtin; refine wpList_pushS rfl _ _ rfl w.heap.size _ done pc wr.heap.size rfl O1.out rfl hc1 (by omega) hB1 ?_)
        intro v4 y hy hgy
        have K4 := Lib.hid (kept_row K1.out hgy (fun g hg => (World.ownsRow.lt O1.out g hg).1))
        have O4 := Lib.hid hy
        clear hy hgy O1 K1 hc1 hB1
        go_wp2_with fail
        go_roundw
        case rel => exact ⟨l.length + 1, l.length + 1, done ++ [pc], Nat.le_refl _, Nat.le_refl _, by go_num, by go_num, by simp; omega, Lib.hid (fun h => by omega), Lib.hid (fun _ => HC.out), O4, K4⟩
        case measure => simp [intOf]
      · have hlt : k < l.length := by omega
        obtain ⟨b, hb⟩ : ∃ b, l[k]? = some b := ⟨_, List.getElem?_eq_getElem hlt⟩
        have hat := byte_at l k b hb
        have hI : ¬ (k : Int) = (l.length : Int) := by omega
        have hIb : ((k : Int) == (l.length : Int)) = false := beq_eq_false_iff_ne.2 hI
        have hcc := hc.out hle
        rw [cutF_step hb] at hcc
        have HSN := Lib.hid (stretch_snoc hsk hb)
        by_cases hbc : b = c
        · rw [if_pos hbc] at hcc
          have HC := Lib.hid hcc
          have hbI : (b.toNat : Int) = (c.toNat : Int) := by rw [hbc]
          have HCz := Lib.hid (show (l.drop (k + 1)).take (k + 1 - (k + 1)) = [] by simp)
          clear hc hce hcc hb hbc hend HSN
          generalize (l.drop s).take (k - s) = pc at *
          go_wp2_with (at_builtin; refine wpList_pushS rfl _ _ rfl w.heap.size _ done pc wr.heap.size rfl O1.out rfl hc1 (by omega) hB1 ?_)
          intro v4 y hy hgy
          have K4 := Lib.hid (kept_row K1.out hgy (fun g hg => (World.ownsRow.lt O1.out g hg).1))
          have O4 := Lib.hid hy
          clear hy hgy O1 K1 hc1 hB1
          go_wp2_with fail
          go_roundw
          case rel => exact ⟨k + 1, k + 1, done ++ [pc], Nat.le_refl _, by omega, by go_num, by go_num, by simp; omega, Lib.hid (fun h => by rw [HC.out, HCz.out]; simp), Lib.hid (fun h => by omega), O4, K4⟩
          case measure => simp [intOf]; omega
        · rw [if_neg hbc, ← HSN.out] at hcc
          have HC := Lib.hid hcc
          have hbI : ¬ (b.toNat : Int) = (c.toNat : Int) := fun e => hbc (UInt8.toNat_inj.1 (by omega))
          have hbB : ((b.toNat : Int) == (c.toNat : Int)) = false := beq_eq_false_iff_ne.2 hbI
          clear hc hce hcc hb hbc hend O1 K1 hc1 hB1 hcb
          go_wp2
          go_roundw
          case rel => exact ⟨k + 1, s, done, by omega, by omega, by go_num, by go_num, by omega, Lib.hid (fun h => HC.out), Lib.hid (fun h => by omega), hO, hK⟩
          case measure => simp [intOf]; omega
    · have HC := Lib.hid (hce.out (by omega))
      have hI : ¬ (k : Int) ≤ l.length := by omega
      clear hc hce
      go_wp2
      go_ret
      rw [HC.out]
      exact ⟨_, rfl, hO.out, hK.out⟩
set_option maxRecDepth 100000 in
set_option maxHeartbeats 4000000 in
theorem rwords_any (s : B) (w : World) (hl : s.length ≤ 200000) : Calls Tryz.prog 68 #[sV s] w fun e w' => ∃ v, e = .returned v ∧ OwnS w.heap.size v (wds s) w' ∧ Kept w w' := by
  have HP := Lib.hid (rplain_any s w (by unfold maxLen; omega))
  have HW := Lib.hid (show wds s = if pln s = true then splt 32 s else cod s from rfl)
  have hsum := sumW_wds s
  have hcl := (sumW_len (wds s)).1
  have hcl2 : (wds s).length ≤ 4000000 := by omega
  clear hsum hcl
  generalize wds s = ws at *
  cases hp : pln s with
  | true =>
    rw [hp] at HP HW
    have HZ := Lib.hid (HW.out.trans (if_pos rfl))
    have HS := Lib.hid (fun w => rsplit_any 32 s w (by omega))
    rw [← HZ.out] at HS
    go_enter Tryz.func68, Tryz.ntmps68
    go_wp2_with fail
    refine HP.out.mono ?_
    rintro e x1 ⟨rfl, rfl⟩
    go_wp2_with fail
    refine (HS.out _).mono ?_
    rintro e x2 ⟨v, rfl, hv, k2⟩
    obtain ⟨va, vc, hvv⟩ := own_slice hv
    subst hvv
    have HV := Lib.hid hv
    clear hv
    go_wp2
    go_ret
    exact ⟨_, rfl, HV.out, k2⟩
  | false =>
    rw [hp] at HP HW
    have HZ := Lib.hid (HW.out.trans (if_neg (by decide)))
    clear HW hp
    rw [HZ.out] at hcl2 ⊢
    go_enter Tryz.func68, Tryz.ntmps68
    go_wp2_with fail
    refine HP.out.mono ?_
    rintro e x1 ⟨rfl, rfl⟩
    go_wp2_with fail
    go_loopw [0, 4, 5] (fun v0 v4 _ wr => ∃ (k : Nat) (r : B), v0 = sV r ∧ Hid (cod r = (cod s).drop k) ∧ k ≤ (cod s).length ∧ r.length ≤ s.length ∧ Hid (OwnS x1.heap.size v4 ((cod s).take k) wr) ∧ Hid (Kept x1 wr)) (fun v0 _ _ _ => match v0 with | .string x => x.size | _ => 0)
    case atStart => exact ⟨0, s, rfl, Lib.hid rfl, Nat.zero_le _, Nat.le_refl _, Lib.hid (OwnS.nil _ _), Lib.hid (Kept.refl _)⟩
    case round =>
      obtain ⟨k, r, rfl, hS, hk, hrl, hO, hK⟩ := hrel
      have hsz : (ByteArray.mk r.toArray).size = r.length := List.size_toArray
      obtain ⟨va, vc, hvv⟩ := own_slice hO.out
      by_cases he : r = []
      · have HE := Lib.hid (show (cod s).take k = cod s by
          have h := hS.out
          rw [he, cod_nil] at h
          have := List.drop_eq_nil_iff.1 h.symm
          exact List.take_of_length_le this)
        rw [HE.out] at hO hvv
        subst hvv
        have hr0 : ¬ (0 : Int) < r.length := by rw [he]; decide
        clear hS he
        go_wp2
        go_ret
        exact ⟨_, rfl, hO.out, hK.out⟩
      · have hr0 : (0 : Int) < r.length := by have := List.length_pos_iff.2 he; omega
        obtain ⟨h1, h2⟩ := cod_step hS.out he
        have hp1 := prt_pos he
        have hp3 := prt_le r
        have hp2 := prt_45 r
        have HPt := Lib.hid (rpart_any r wr (by unfold maxLen; omega))
        have hct := cut_to r (prt r) hp3
        have hcf := cut_from r (prt r) (prt r) rfl hp3
        have hrn : (r.drop (prt r)).length < r.length := by simp; omega
        obtain ⟨cp, w1, hcv, hk1, hR1⟩ := to_bytes (r.take (prt r)) wr
        have hpl : (r.take (prt r)).length ≤ 45 := by simp; omega
        have HRw := Lib.hid (rraw_any _ (r.take (prt r)) w1 hR1 (by omega))
        have hrl2 := Bx.raw_len (r.take (prt r))
        have hrl3 : (raw (r.take (prt r))).length ≤ 60 := by rw [hrl2]; omega
        rw [show code (r.take (prt r)) = (opn ++ raw (r.take (prt r))) ++ cls by unfold code; rw [List.append_assoc]] at h1
        have happ1 : (⟨#[61, 63, 117, 116, 102, 45, 56, 63, 66, 63]⟩ ++ ⟨(raw (r.take (prt r))).toArray⟩ : ByteArray) = ⟨(opn ++ raw (r.take (prt r))).toArray⟩ := app_mk opn _
        have happ2 : (⟨(opn ++ raw (r.take (prt r))).toArray⟩ ++ ⟨#[63, 61]⟩ : ByteArray) = ⟨((opn ++ raw (r.take (prt r))) ++ cls).toArray⟩ := app_mk _ cls
        have hl1 : (opn ++ raw (r.take (prt r))).length ≤ 70 := by rw [List.length_append]; have : opn.length = 10 := rfl; omega
        have HT := Lib.hid h1
        have HN := Lib.hid h2
        have HTk := Lib.hid (show (cod s).take (k + 1) = (cod s).take k ++ [(opn ++ raw (r.take (prt r))) ++ cls] by rw [List.take_add_one, h1]; rfl)
        have hdl : ((cod s).take k).length ≤ 4000000 := by simp; omega
        clear h1 h2 hS he hrl2 hR1
        generalize prt r = n at *
        generalize r.take n = p at *
        generalize (opn ++ raw p) ++ cls = cw at *
        generalize opn ++ raw p = c1 at *
        generalize raw p = rp at *
        generalize r.drop n = q at *
        generalize (cod s).take k = done at *
        subst hvv
        go_wp2_with fail
        refine HPt.out.mono ?_
        rintro e w2 ⟨rfl, rfl⟩
        go_wp2_with fail
        refine HRw.out.mono ?_
        rintro e w3 ⟨rfl, k3⟩
        have hal := (Kept.refl w3).alloc (.cells #[sV cw] 9)
        have hc1 := (Kept.refl (w3.alloc (.cells #[sV cw] 9))).new 0 (v := sV cw) rfl
        have K1 := Lib.hid (((hK.out.trans hk1).trans k3).trans hal)
        have O1 := Lib.hid (OwnS.kept (OwnS.kept (OwnS.kept hO.out hk1) k3) hal)
        have hB1 := K1.out.size
        clear hal hcv hk1 k3 HPt HRw hO hK
        go_wp2_with (at_builtin; refine wpList_pushS rfl _ _ rfl x1.heap.size _ done cw w3.heap.size rfl O1.out rfl hc1 (by omega) hB1 ?_)
        intro v4 y hy hgy
        have K4 := Lib.hid (kept_row K1.out hgy (fun g hg => (World.ownsRow.lt O1.out g hg).1))
        have O4 := Lib.hid (show OwnS x1.heap.size v4 ((cod s).take (k + 1)) y by rw [HTk.out]; exact hy)
        have hkl : k + 1 ≤ (cod s).length := (List.getElem?_eq_some_iff.1 HT.out).1
        clear hy hgy O1 K1 hc1 hB1
        go_wp2_with fail
        go_roundw
        case rel => exact ⟨k + 1, q, rfl, HN, hkl, by omega, O4, K4⟩
        case measure => show (ByteArray.mk q.toArray).size < (ByteArray.mk r.toArray).size; rw [str_lit, str_lit]; exact hrn
end Go.Proofs.YtgpocnnolieijaaGreatDoor.Hd
