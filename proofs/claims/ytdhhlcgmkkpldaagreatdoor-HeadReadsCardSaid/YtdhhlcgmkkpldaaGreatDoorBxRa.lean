/- The document's own answers of layer b64: a sign's number; Raw. -/
import Derived.Test.YtdhhlcgmkkpldaaGreatDoorBxR
import Derived.Deep.RegionHeld3
import Derived.Deep.CutBlock
import Derived.Deep.CutRange
set_option linter.unusedSimpArgs false
set_option linter.unusedVariables false
namespace Go.Proofs.YtdhhlcgmkkpldaaGreatDoor
open Go.ChangeShapes Go.WideShapes Go.ChangeAt Go.RowKit
open Bx
theorem dg_back : ∀ n, n < 256 → dg (UInt8.ofNat n) = -1 ∨ sg (dg (UInt8.ofNat n)).toNat = UInt8.ofNat n := by decide +kernel
theorem nm_hit {i : Nat} {c : UInt8} (hi : i < 64) (h : sg i = c) : nm c = i := by rw [← h, nm_sg hi]
theorem nm_miss {c : UInt8} (h : ∀ j, j < 64 → sg j ≠ c) : nm c = 0 := by
  unfold nm
  split
  · rfl
  · rename_i hd
    have h1 := dg_back c.toNat c.toNat_lt
    rw [UInt8.ofNat_toNat] at h1
    have h2 := dg_bd c
    rcases h1 with h1 | h1
    · omega
    · exact absurd h1 (h _ (by omega))
set_option maxRecDepth 100000 in
set_option maxHeartbeats 4000000 in
theorem number_any (c : UInt8) (w : World) : Calls Tryz.prog 67 #[.int .u8 c.toNat] w fun e w' => e = .returned (iV (nm c)) ∧ Kept w w' := by
  go_enter Tryz.func67, Tryz.ntmps67
  go_wp2_with fail
  go_loopw [3] (fun vi wr => ∃ (i : Nat), i ≤ 64 ∧ vi = .int .i64 i ∧ Hid (Kept w wr) ∧ Hid (∀ j, j < i → sg j ≠ c)) (fun vi _ => 64 - (intOf vi).toNat)
  case atStart => exact ⟨0, by decide, rfl, Lib.hid (Kept.refl w), Lib.hid (fun j hj => by omega)⟩
  case round =>
    obtain ⟨i, hi, rfl, hK, hJ⟩ := hrel
    by_cases hlt : i < 64
    · have hltI : (i : Int) < 64 := by omega
      have HS := sg_at i
      dsimp only at HS
      by_cases h : (sg i).toNat = c.toNat
      · have HN := Lib.hid (nm_hit hlt (UInt8.toNat_inj.1 h))
        have hI : ((sg i).toNat : Int) = c.toNat := by omega
        clear h
        go_wp2
        go_ret
        exact ⟨by rw [HN.out]; rfl, hK.out⟩
      · have hI : ((((sg i).toNat : Int)) == (c.toNat : Int)) = false := beq_eq_false_iff_ne.2 (by omega)
        have HJ := Lib.hid (show ∀ j, j < i + 1 → sg j ≠ c from fun j hj => by
          by_cases q : j = i
          · subst q; exact fun e => h (by rw [e])
          · exact hJ.out j (by omega))
        clear h hJ
        go_wp2
        go_roundw
        case rel => exact ⟨i + 1, hlt, by go_num, hK, HJ⟩
        case measure => simp [intOf]; omega
    · have hltI : ¬ (i : Int) < 64 := by omega
      have HN := Lib.hid (nm_miss (fun j hj => hJ.out j (by omega)))
      clear hJ
      go_wp2
      go_ret
      exact ⟨by rw [HN.out]; rfl, hK.out⟩
/-- the number of the first three -/
def num3 (r : B) : Nat := num (r.getD 0 0) (r.getD 1 0) (r.getD 2 0)
theorem raw4 (r : B) (h : r ≠ []) : raw r = ([sg (num3 r / 262144), sg (num3 r / 4096 % 64)] ++ ((if 1 < r.length then [sg (num3 r / 64 % 64)] else [61]) ++ (if 2 < r.length then [sg (num3 r % 64)] else [61]))) ++ raw (r.drop 3) := by
  match r, h with
  | [a], _ => rfl
  | [a, b], _ => rfl
  | a :: b :: c :: r, _ =>
    rw [if_pos (by simp), if_pos (by simp)]
    rfl
/-- so many bytes' number, from a place on -/
def pnum (l : B) (i : Nat) : Nat → Nat
  | 0 => 0
  | m + 1 => 256 * pnum l i m + (l.getD (i + m) 0).toNat
theorem pnum_3 (l : B) (i : Nat) : pnum l i 3 = num3 (l.drop i) := by
  have e : ∀ j, (l.drop i).getD j 0 = l.getD (i + j) 0 := fun j => by simp [List.getD]
  unfold num3 num
  rw [e, e, e]
  simp only [pnum, Nat.add_zero]
  omega
theorem pnum_lt (l : B) (i : Nat) : ∀ m, pnum l i m < 256 ^ m
  | 0 => Nat.zero_lt_one
  | m + 1 => by
    have h := pnum_lt l i m
    have h2 := (l.getD (i + m) 0).toNat_lt
    rw [Nat.pow_succ]
    simp only [pnum]
    omega
theorem pnum_bd (l : B) (i m : Nat) (h : m ≤ 3) : pnum l i m < 16777216 := Nat.lt_of_lt_of_le (pnum_lt l i m) (Nat.pow_le_pow_right (by decide) h : 256 ^ m ≤ 256 ^ 3)
set_option maxRecDepth 100000 in
set_option maxHeartbeats 4000000 in
theorem rraw_any (v : Value) (l : B) (w : World) (hR : BRd v l w) (hl : l.length ≤ 1000000) : Calls Tryz.prog 49 #[v] w fun e w' => e = .returned (sV (raw l)) ∧ Kept w w' := by
  obtain ⟨a, c, hv⟩ := hR.slice
  have HB := Lib.hid (BOld.of hR)
  have hle := raw_le l
  have HLE := Lib.hid (show (raw l).length ≤ 2000004 by omega)
  clear hR hle
  subst hv
  go_enter Tryz.func49, Tryz.ntmps49
  go_wp2_with fail
  go_loopw [3, 4] (fun vm vi wr => ∃ (i : Nat) (D : B), i ≤ l.length + 2 ∧ vi = .int .i64 i ∧ Hid (BOld w.heap.size (.slice a l.length c) l wr) ∧ Hid (D ++ raw (l.drop i) = raw l) ∧ Hid (Kept w wr) ∧ Hid (OwnB w.heap.size vm D wr)) (fun _ vi _ => l.length + 3 - (intOf vi).toNat)
  case atStart => exact ⟨0, [], Nat.zero_le _, rfl, HB, Lib.hid rfl, Lib.hid (Kept.refl w), Lib.hid (OwnB.nil _ _)⟩
  case round =>
    obtain ⟨i, D, hi, rfl, hB, hD, hKw, hO⟩ := hrel
    obtain ⟨ta, tc, htv⟩ := own_slice hO.out
    have hDl := len_le hD.out
    have hDl := Nat.le_trans hDl HLE.out
    have hsz := hKw.out.size
    subst htv
    by_cases hlt : i < l.length
    · have hltI : (i : Int) < l.length := by omega
      have hne : l.drop i ≠ [] := fun e => by rw [List.drop_eq_nil_iff] at e; omega
      have HR4 := Lib.hid (raw4 (l.drop i) hne)
      rw [List.drop_drop, List.length_drop] at HR4
      clear hne
      go_upto_block 2 with (fail)
      go_cut [5, 6] from 7 to 71 (fun vn vk wx => vn = .int .i64 (num3 (l.drop i)) ∧ vk = .int .i64 (i + 3) ∧ wx = wr)
      case first =>
        clear hD HLE HR4 hO
        go_wp2_with fail
        go_loopw [5, 6] (fun vn vk wx => ∃ k : Nat, i ≤ k ∧ k ≤ i + 3 ∧ vn = .int .i64 (pnum l i (k - i)) ∧ vk = .int .i64 k ∧ wx = wr) (fun _ vk _ => i + 3 - (intOf vk).toNat)
        case atStart => exact ⟨i, Nat.le_refl _, by omega, by simp [pnum], rfl, rfl⟩
        case round =>
          obtain ⟨k, hk1, hk2, rfl, rfl, rfl⟩ := hrel
          by_cases hk3 : k < i + 3
          · have hk3I : (k : Int) < (i : Int) + 3 := by omega
            have hbd := pnum_bd l i (k - i) (by omega)
            have hS : pnum l i (k + 1 - i) = 256 * pnum l i (k - i) + (l.getD k 0).toNat := by
              rw [show k + 1 - i = (k - i) + 1 by omega, pnum, show i + (k - i) = k by omega]
            by_cases hkl : k < l.length
            · have hklI : (k : Int) < l.length := by omega
              obtain ⟨x, hx⟩ : ∃ x, l[k]? = some x := ⟨_, List.getElem?_eq_getElem hkl⟩
              have hx2 : l.getD k 0 = x := by simp [List.getD, hx]
              obtain ⟨g, o, cp, hv', hcp, cell⟩ := hB.out.1.at hx
              cases hv'
              have hxl := x.toNat_lt
              rw [hx2] at hS
              clear hx hx2
              generalize pnum l i (k - i) = n at *
              go_wp2
              go_roundw
              case rel => exact ⟨k + 1, by omega, by omega, by rw [hS]; go_num, by go_num, trivial⟩
              case measure => simp [intOf]; omega
            · have hklI : ¬ (k : Int) < l.length := by omega
              have hx2 : l.getD k 0 = 0 := by simp [List.getD, List.getElem?_eq_none (Nat.le_of_not_lt hkl)]
              rw [hx2, show (0 : UInt8).toNat = 0 from rfl, Nat.add_zero] at hS
              clear hx2
              generalize pnum l i (k - i) = n at *
              go_wp2
              go_roundw
              case rel => exact ⟨k + 1, by omega, by omega, by rw [hS]; go_num, by go_num, trivial⟩
              case measure => simp [intOf]; omega
          · have hk3I : ¬ (k : Int) < (i : Int) + 3 := by omega
            have hke : k = i + 3 := by omega
            have hn := pnum_3 l i
            go_wp2
            go_meet
            case rel => exact ⟨by first | rfl | rw [hke, show i + 3 - i = 3 by omega, hn], by first | rfl | (rw [hke]; go_num), rfl⟩
      case rest =>
        obtain ⟨rfl, rfl, hwc⟩ := hcut
        have hwd := hwc.symm
        clear hwc
        subst hwd
        have hnl := num_lt ((l.drop i).getD 0 0) ((l.drop i).getD 1 0) ((l.drop i).getD 2 0)
        rw [show num ((l.drop i).getD 0 0) ((l.drop i).getD 1 0) ((l.drop i).getD 2 0) = num3 (l.drop i) from rfl] at hnl
        generalize num3 (l.drop i) = n at *
        have q0 : IntKind.i64.wrap ((n : Int) / 262144) = ((n / 262144 : Nat) : Int) := by rw [wraps_i64' _ (by omega) (by omega)]; omega
        have q1 : IntKind.i64.wrap ((n : Int) / 4096) = ((n / 4096 : Nat) : Int) := by rw [wraps_i64' _ (by omega) (by omega)]; omega
        have q2 : ((n / 4096 : Nat) : Int).tmod 64 = ((n / 4096 % 64 : Nat) : Int) := by rw [Int.tmod_eq_emod_of_nonneg (by omega)]; omega
        have l0 : n / 262144 < 64 := by omega
        have l1 : n / 4096 % 64 < 64 := by omega
        have s0 := sg_at (n / 262144)
        have s1 := sg_at (n / 4096 % 64)
        dsimp only at s0 s1
        have l2 : n / 64 % 64 < 64 := by omega
        have l3 : n % 64 < 64 := by omega
        have e2 : (n : Int) / 64 % 64 = ((n / 64 % 64 : Nat) : Int) := by omega
        have e3 : (n : Int) % 64 = ((n % 64 : Nat) : Int) := by omega
        have s2 := sg_at (n / 64 % 64)
        have s3 := sg_at (n % 64)
        dsimp only at s2 s3
        generalize n / 262144 = d0 at *
        generalize n / 4096 % 64 = d1 at *
        generalize n / 64 % 64 = d2 at *
        generalize n % 64 = d3 at *
        generalize n / 4096 = m0 at *
        have i2 : (d2 : Int) < 64 := by omega
        have i3 : (d3 : Int) < 64 := by omega
        have i0 : (d0 : Int) < 64 := by omega
        have i1 : (d1 : Int) < 64 := by omega
        go_wp2_with fail
        refine wp_region_held_drew (S := (fun _ => True)) (by kernel_rfl) trivial (fun hS0 => ?_)
        refine wpAnyH_take (i := 0) (oi := { dst := some 33, op := Go.Op.move (Go.Operand.tmp 3), type := 22, pos := "ref.go:20", after := #[], guard := none }) (v := ?vz0) rfl (by kernel_rfl) (by kernel_rfl) (by kernel_rfl) (fun _ _ _ h => h) (Or.inl ⟨by rfl, ?yz0⟩) (by assumption) ?rz0
        case yz0 => (intro wq hSw; (try dsimp only at hSw); go_simp; try with_reducible rfl)
        simp only [Act.put, List.setIfInBounds_toArray, List.set_cons_zero, List.set_cons_succ]
        refine wpAnyH_take (i := 1) (oi := { dst := some 34, op := Go.Op.move (Go.Operand.tmp 5), type := 3, pos := "ref.go:20", after := #[], guard := none }) (v := ?vz1) rfl (by kernel_rfl) (by kernel_rfl) (by kernel_rfl) (fun _ _ _ h => h) (Or.inl ⟨by rfl, ?yz1⟩) (by assumption) ?rz1
        case yz1 => (intro wq hSw; (try dsimp only at hSw); go_simp; try with_reducible rfl)
        simp only [Act.put, List.setIfInBounds_toArray, List.set_cons_zero, List.set_cons_succ]
        refine wpAnyH_take (i := 2) (oi := { dst := some 35, op := Go.Op.binOp Go.BinOp.quo 3 (Go.Operand.tmp 34) (Go.Operand.const (Go.Value.int Go.IntKind.i64 262144)) 3, type := 3, pos := "ref.go:20", after := #[{ on := 1, ground := Go.Ground.data }], guard := none }) (v := ?vz2) rfl (by kernel_rfl) (by kernel_rfl) (by kernel_rfl) (fun _ _ _ h => h) (Or.inl ⟨by rfl, ?yz2⟩) (by assumption) ?rz2
        case yz2 => (intro wq hSw; (try dsimp only at hSw); go_simp; try with_reducible rfl)
        simp only [Act.put, List.setIfInBounds_toArray, List.set_cons_zero, List.set_cons_succ]
        refine wpAnyH_take (i := 3) (oi := { dst := some 36, op := Go.Op.index 9 (Go.Operand.const (Go.Value.string { data := #[65, 66, 67, 68, 69, 70, 71, 72, 73, 74, 75, 76, 77, 78, 79, 80, 81, 82, 83, 84, 85, 86, 87, 88, 89, 90, 97, 98, 99, 100, 101, 102, 103, 104, 105, 106, 107, 108, 109, 110, 111, 112, 113, 114, 115, 116, 117, 118, 119, 120, 121, 122, 48, 49, 50, 51, 52, 53, 54, 55, 56, 57, 43, 47] })) (Go.Operand.tmp 35), type := 5, pos := "ref.go:20", after := #[{ on := 2, ground := Go.Ground.data }], guard := none }) (v := ?vz3) rfl (by kernel_rfl) (by kernel_rfl) (by kernel_rfl) (fun _ _ _ h => h) (Or.inl ⟨by rfl, ?yz3⟩) (by assumption) ?rz3
        case yz3 => (intro wq hSw; (try dsimp only at hSw); go_simp; try with_reducible rfl)
        simp only [Act.put, List.setIfInBounds_toArray, List.set_cons_zero, List.set_cons_succ]
        refine wpAnyH_take (i := 4) (oi := { dst := some 37, op := Go.Op.move (Go.Operand.tmp 5), type := 3, pos := "ref.go:20", after := #[], guard := none }) (v := ?vz4) rfl (by kernel_rfl) (by kernel_rfl) (by kernel_rfl) (fun _ _ _ h => h) (Or.inl ⟨by rfl, ?yz4⟩) (by assumption) ?rz4
        case yz4 => (intro wq hSw; (try dsimp only at hSw); go_simp; try with_reducible rfl)
        simp only [Act.put, List.setIfInBounds_toArray, List.set_cons_zero, List.set_cons_succ]
        refine wpAnyH_take (i := 5) (oi := { dst := some 38, op := Go.Op.binOp Go.BinOp.quo 3 (Go.Operand.tmp 37) (Go.Operand.const (Go.Value.int Go.IntKind.i64 4096)) 3, type := 3, pos := "ref.go:20", after := #[{ on := 4, ground := Go.Ground.data }], guard := none }) (v := ?vz5) rfl (by kernel_rfl) (by kernel_rfl) (by kernel_rfl) (fun _ _ _ h => h) (Or.inl ⟨by rfl, ?yz5⟩) (by assumption) ?rz5
        case yz5 => (intro wq hSw; (try dsimp only at hSw); go_simp; try with_reducible rfl)
        simp only [Act.put, List.setIfInBounds_toArray, List.set_cons_zero, List.set_cons_succ]
        refine wpAnyH_take (i := 6) (oi := { dst := some 39, op := Go.Op.binOp Go.BinOp.rem 3 (Go.Operand.tmp 38) (Go.Operand.const (Go.Value.int Go.IntKind.i64 64)) 3, type := 3, pos := "ref.go:20", after := #[{ on := 5, ground := Go.Ground.data }], guard := none }) (v := ?vz6) rfl (by kernel_rfl) (by kernel_rfl) (by kernel_rfl) (fun _ _ _ h => h) (Or.inl ⟨by rfl, ?yz6⟩) (by assumption) ?rz6
        case yz6 => (intro wq hSw; (try dsimp only at hSw); go_simp; try with_reducible rfl)
        simp only [Act.put, List.setIfInBounds_toArray, List.set_cons_zero, List.set_cons_succ]
        refine wpAnyH_take (i := 7) (oi := { dst := some 40, op := Go.Op.index 9 (Go.Operand.const (Go.Value.string { data := #[65, 66, 67, 68, 69, 70, 71, 72, 73, 74, 75, 76, 77, 78, 79, 80, 81, 82, 83, 84, 85, 86, 87, 88, 89, 90, 97, 98, 99, 100, 101, 102, 103, 104, 105, 106, 107, 108, 109, 110, 111, 112, 113, 114, 115, 116, 117, 118, 119, 120, 121, 122, 48, 49, 50, 51, 52, 53, 54, 55, 56, 57, 43, 47] })) (Go.Operand.tmp 39), type := 5, pos := "ref.go:20", after := #[{ on := 6, ground := Go.Ground.data }], guard := none }) (v := ?vz7) rfl (by kernel_rfl) (by kernel_rfl) (by kernel_rfl) (fun _ _ _ h => h) (Or.inl ⟨by rfl, ?yz7⟩) (by assumption) ?rz7
        case yz7 => (intro wq hSw; (try dsimp only at hSw); go_simp; try with_reducible rfl)
        simp only [Act.put, List.setIfInBounds_toArray, List.set_cons_zero, List.set_cons_succ]
        refine wpAnyH_ready (rs := [8]) (by kernel_rfl) (by simp) (AllReadyH.cons (o := { dst := some 41, op := Go.Op.buildSlice 22 2 #[(0, Go.Operand.tmp 36), (1, Go.Operand.tmp 40)], type := 22, pos := "ref.go:20", after := #[{ on := 3, ground := Go.Ground.data }, { on := 7, ground := Go.Ground.data }], guard := none }) rfl (fun K hK => ?_) AllReadyH.nil)
        go_simp
        have kx : Kept wr (wr.alloc (.cells #[.int .u8 (sg d0).toNat, .int .u8 (sg d1).toNat] 5)).drew := ((Kept.refl wr).alloc _).drew
        have OX := Lib.hid (hO.out.kept kx)
        have KX := Lib.hid (hKw.out.trans kx)
        have BX := Lib.hid (hB.out.kept kx)
        have hbx := (brd_new wr [sg d0, sg d1] 5 #[.int .u8 (sg d0).toNat, .int .u8 (sg d1).toNat] rfl 2 (Nat.le_refl 2) (0, 0)).kept ((Kept.refl _).drew)
        have HBX := Lib.hid hbx
        have hszx := KX.out.size
        clear kx hO hKw hB hbx
        generalize (wr.alloc (.cells #[.int .u8 (sg d0).toNat, .int .u8 (sg d1).toNat] 5)).drew = x at *
        refine Shut.out hK _ _ trivial (fun hSb => ?_)
        clear hK K
        try simp only [Act.put, List.setIfInBounds_toArray, List.set_cons_zero, List.set_cons_succ]
        refine wpAnyH_ready (rs := [9]) (by kernel_rfl) (by simp) (AllReadyH.cons (o := { dst := some 42, op := Go.Op.call { callee := Go.Callee.builtin Go.Builtin.append, args := #[Go.Operand.tmp 33, Go.Operand.tmp 41], argTypes := #[22, 22] }, type := 22, pos := "ref.go:20", after := #[{ on := 0, ground := Go.Ground.data }, { on := 8, ground := Go.Ground.data }], guard := none }) rfl (fun K hK => ?_) AllReadyH.nil)
        rw [if_pos (by rfl)]
        refine wp_sliceB (.tmp 33) (.tmp 41) rfl w.heap.size (.slice ta D.length tc) _ D [sg d0, sg d1] (by rfl) OX.out (by rfl) HBX.out (by simp; omega) hszx ?_
        intro v' z hz hgz
        have KZ := Lib.hid (kept_row KX.out hgz (fun g hg => (World.ownsRow.lt OX.out g hg).1))
        have BZ := Lib.hid (BX.out.grow hgz (fun g hg => (World.ownsRow.lt OX.out g hg).1))
        have OZ := Lib.hid hz
        have HDL := Lib.hid (show (D ++ [sg d0, sg d1]).length ≤ 2000006 by simp; omega)
        have HDD := Lib.hid (show ∀ A C R : B, (((D ++ [sg d0, sg d1]) ++ A) ++ C) ++ R = D ++ (([sg d0, sg d1] ++ (A ++ C)) ++ R) from fun A C R => by simp)
        obtain ⟨za, zc, hzv⟩ := own_slice hz
        subst hzv
        have hszz := KZ.out.size
        clear hz hgz OX KX BX HBX s0 s1 q0 q1 q2 l0 l1
        generalize D ++ [sg d0, sg d1] = D2 at *
        refine Shut.out hK _ _ trivial (fun hSb => ?_)
        clear hK K
        try simp only [Act.put, List.setIfInBounds_toArray, List.set_cons_zero, List.set_cons_succ]
        refine wpAnyH_take (i := 10) (oi := { dst := some 3, op := Go.Op.assign (Go.Operand.tmp 42), type := 22, pos := "ref.go:20", after := #[{ on := 9, ground := Go.Ground.data }, { on := 9, ground := Go.Ground.chain }, { on := 0, ground := Go.Ground.phase }, { on := 1, ground := Go.Ground.phase }, { on := 2, ground := Go.Ground.phase }, { on := 3, ground := Go.Ground.phase }, { on := 4, ground := Go.Ground.phase }, { on := 5, ground := Go.Ground.phase }, { on := 6, ground := Go.Ground.phase }, { on := 7, ground := Go.Ground.phase }, { on := 8, ground := Go.Ground.phase }, { on := 9, ground := Go.Ground.phase }], guard := none }) (v := ?vz10) rfl (by kernel_rfl) (by kernel_rfl) (by kernel_rfl) (fun _ _ _ h => h) (Or.inl ⟨by rfl, ?yz10⟩) (by assumption) ?rz10
        case yz10 => (intro wq hSw; (try dsimp only at hSw); go_simp; try with_reducible rfl)
        simp only [Act.put, List.setIfInBounds_toArray, List.set_cons_zero, List.set_cons_succ]
        refine wpAnyH_done (by kernel_rfl) ?_ _
        clear hSb i0 i1
        by_cases h1 : (i : Int) + 1 < l.length
        · by_cases h2 : (i : Int) + 2 < l.length
          · have HDF := Lib.hid (show ((D2 ++ [sg d2]) ++ [sg d3]) ++ raw (l.drop (i + 3)) = raw l by rw [HDD.out, ← hD.out, HR4.out, if_pos (show 1 < l.length - i by omega), if_pos (show 2 < l.length - i by omega)])
            clear HDD HR4 hD
            have kyp : Kept z (z.alloc (.cells #[.int .u8 (sg d2).toNat] 5)) := (Kept.refl z).alloc _
            have OYp := Lib.hid (OZ.out.kept kyp)
            have KYp := Lib.hid (KZ.out.trans kyp)
            have BYp := Lib.hid (BZ.out.kept kyp)
            have hcyp : (z.alloc (.cells #[.int .u8 (sg d2).toNat] 5)).cell? ⟨z.heap.size, 0, none⟩ = some (.int .u8 (sg d2).toNat) := (Kept.refl _).new 0 rfl
            have hszyp := KYp.out.size
            clear OZ KZ BZ kyp
            go_wp2_with (at_builtin; refine wpList_byteB rfl _ _ rfl w.heap.size (.slice za D2.length zc) D2 (sg d2) z.heap.size rfl OYp.out rfl hcyp (by have := HDL.out; omega) hszyp ?_)
            intro vp z2 hz hgz
            have KZ := Lib.hid (kept_row KYp.out hgz (fun g hg => (World.ownsRow.lt OYp.out g hg).1))
            have BZ := Lib.hid (BYp.out.grow hgz (fun g hg => (World.ownsRow.lt OYp.out g hg).1))
            have OZ := Lib.hid hz
            have HDL := Lib.hid (show (D2 ++ [sg d2]).length ≤ 2000007 by have := HDL.out; simp; omega)
            obtain ⟨ya, yc, hyv⟩ := own_slice hz
            subst hyv
            clear hz hgz OYp KYp BYp hcyp
            generalize D2 ++ [sg d2] = D3 at *
            have kyq : Kept z2 (z2.alloc (.cells #[.int .u8 (sg d3).toNat] 5)) := (Kept.refl z2).alloc _
            have OYq := Lib.hid (OZ.out.kept kyq)
            have KYq := Lib.hid (KZ.out.trans kyq)
            have BYq := Lib.hid (BZ.out.kept kyq)
            have hcyq : (z2.alloc (.cells #[.int .u8 (sg d3).toNat] 5)).cell? ⟨z2.heap.size, 0, none⟩ = some (.int .u8 (sg d3).toNat) := (Kept.refl _).new 0 rfl
            have hszyq := KYq.out.size
            clear OZ KZ BZ kyq
            go_wp2_with (at_builtin; refine wpList_byteB rfl _ _ rfl w.heap.size (.slice ya D3.length yc) D3 (sg d3) z2.heap.size rfl OYq.out rfl hcyq (by have := HDL.out; omega) hszyq ?_)
            intro vq z3 hz hgz
            have KZ := Lib.hid (kept_row KYq.out hgz (fun g hg => (World.ownsRow.lt OYq.out g hg).1))
            have BZ := Lib.hid (BYq.out.grow hgz (fun g hg => (World.ownsRow.lt OYq.out g hg).1))
            have OZ := Lib.hid hz
            clear hz hgz OYq KYq BYq hcyq
            go_wp2_with fail
            go_roundw
            case rel => exact ⟨i + 3, D3 ++ [sg d3], by omega, by go_num, BZ, HDF, KZ, OZ⟩
            case measure => simp [intOf]; omega
          · have HDF := Lib.hid (show ((D2 ++ [sg d2]) ++ [61]) ++ raw (l.drop (i + 3)) = raw l by rw [HDD.out, ← hD.out, HR4.out, if_pos (show 1 < l.length - i by omega), if_neg (show ¬ 2 < l.length - i by omega)])
            clear HDD HR4 hD
            have kyp : Kept z (z.alloc (.cells #[.int .u8 (sg d2).toNat] 5)) := (Kept.refl z).alloc _
            have OYp := Lib.hid (OZ.out.kept kyp)
            have KYp := Lib.hid (KZ.out.trans kyp)
            have BYp := Lib.hid (BZ.out.kept kyp)
            have hcyp : (z.alloc (.cells #[.int .u8 (sg d2).toNat] 5)).cell? ⟨z.heap.size, 0, none⟩ = some (.int .u8 (sg d2).toNat) := (Kept.refl _).new 0 rfl
            have hszyp := KYp.out.size
            clear OZ KZ BZ kyp
            go_wp2_with (at_builtin; refine wpList_byteB rfl _ _ rfl w.heap.size (.slice za D2.length zc) D2 (sg d2) z.heap.size rfl OYp.out rfl hcyp (by have := HDL.out; omega) hszyp ?_)
            intro vp z2 hz hgz
            have KZ := Lib.hid (kept_row KYp.out hgz (fun g hg => (World.ownsRow.lt OYp.out g hg).1))
            have BZ := Lib.hid (BYp.out.grow hgz (fun g hg => (World.ownsRow.lt OYp.out g hg).1))
            have OZ := Lib.hid hz
            have HDL := Lib.hid (show (D2 ++ [sg d2]).length ≤ 2000007 by have := HDL.out; simp; omega)
            obtain ⟨ya, yc, hyv⟩ := own_slice hz
            subst hyv
            clear hz hgz OYp KYp BYp hcyp
            generalize D2 ++ [sg d2] = D3 at *
            have kyq : Kept z2 (z2.alloc (.cells #[.int .u8 (61 : UInt8).toNat] 5)) := (Kept.refl z2).alloc _
            have OYq := Lib.hid (OZ.out.kept kyq)
            have KYq := Lib.hid (KZ.out.trans kyq)
            have BYq := Lib.hid (BZ.out.kept kyq)
            have hcyq : (z2.alloc (.cells #[.int .u8 (61 : UInt8).toNat] 5)).cell? ⟨z2.heap.size, 0, none⟩ = some (.int .u8 (61 : UInt8).toNat) := (Kept.refl _).new 0 rfl
            have hszyq := KYq.out.size
            clear OZ KZ BZ kyq
            go_wp2_with (at_builtin; refine wpList_byteB rfl _ _ rfl w.heap.size (.slice ya D3.length yc) D3 (61 : UInt8) z2.heap.size rfl OYq.out rfl hcyq (by have := HDL.out; omega) hszyq ?_)
            intro vq z3 hz hgz
            have KZ := Lib.hid (kept_row KYq.out hgz (fun g hg => (World.ownsRow.lt OYq.out g hg).1))
            have BZ := Lib.hid (BYq.out.grow hgz (fun g hg => (World.ownsRow.lt OYq.out g hg).1))
            have OZ := Lib.hid hz
            clear hz hgz OYq KYq BYq hcyq
            go_wp2_with fail
            go_roundw
            case rel => exact ⟨i + 3, D3 ++ [61], by omega, by go_num, BZ, HDF, KZ, OZ⟩
            case measure => simp [intOf]; omega
        · by_cases h2 : (i : Int) + 2 < l.length
          · exact absurd h2 (by omega)
          · have HDF := Lib.hid (show ((D2 ++ [61]) ++ [61]) ++ raw (l.drop (i + 3)) = raw l by rw [HDD.out, ← hD.out, HR4.out, if_neg (show ¬ 1 < l.length - i by omega), if_neg (show ¬ 2 < l.length - i by omega)])
            clear HDD HR4 hD
            have kyp : Kept z (z.alloc (.cells #[.int .u8 (61 : UInt8).toNat] 5)) := (Kept.refl z).alloc _
            have OYp := Lib.hid (OZ.out.kept kyp)
            have KYp := Lib.hid (KZ.out.trans kyp)
            have BYp := Lib.hid (BZ.out.kept kyp)
            have hcyp : (z.alloc (.cells #[.int .u8 (61 : UInt8).toNat] 5)).cell? ⟨z.heap.size, 0, none⟩ = some (.int .u8 (61 : UInt8).toNat) := (Kept.refl _).new 0 rfl
            have hszyp := KYp.out.size
            clear OZ KZ BZ kyp
            go_wp2_with (at_builtin; refine wpList_byteB rfl _ _ rfl w.heap.size (.slice za D2.length zc) D2 (61 : UInt8) z.heap.size rfl OYp.out rfl hcyp (by have := HDL.out; omega) hszyp ?_)
            intro vp z2 hz hgz
            have KZ := Lib.hid (kept_row KYp.out hgz (fun g hg => (World.ownsRow.lt OYp.out g hg).1))
            have BZ := Lib.hid (BYp.out.grow hgz (fun g hg => (World.ownsRow.lt OYp.out g hg).1))
            have OZ := Lib.hid hz
            have HDL := Lib.hid (show (D2 ++ [61]).length ≤ 2000007 by have := HDL.out; simp; omega)
            obtain ⟨ya, yc, hyv⟩ := own_slice hz
            subst hyv
            clear hz hgz OYp KYp BYp hcyp
            generalize D2 ++ [61] = D3 at *
            have kyq : Kept z2 (z2.alloc (.cells #[.int .u8 (61 : UInt8).toNat] 5)) := (Kept.refl z2).alloc _
            have OYq := Lib.hid (OZ.out.kept kyq)
            have KYq := Lib.hid (KZ.out.trans kyq)
            have BYq := Lib.hid (BZ.out.kept kyq)
            have hcyq : (z2.alloc (.cells #[.int .u8 (61 : UInt8).toNat] 5)).cell? ⟨z2.heap.size, 0, none⟩ = some (.int .u8 (61 : UInt8).toNat) := (Kept.refl _).new 0 rfl
            have hszyq := KYq.out.size
            clear OZ KZ BZ kyq
            go_wp2_with (at_builtin; refine wpList_byteB rfl _ _ rfl w.heap.size (.slice ya D3.length yc) D3 (61 : UInt8) z2.heap.size rfl OYq.out rfl hcyq (by have := HDL.out; omega) hszyq ?_)
            intro vq z3 hz hgz
            have KZ := Lib.hid (kept_row KYq.out hgz (fun g hg => (World.ownsRow.lt OYq.out g hg).1))
            have BZ := Lib.hid (BYq.out.grow hgz (fun g hg => (World.ownsRow.lt OYq.out g hg).1))
            have OZ := Lib.hid hz
            clear hz hgz OYq KYq BYq hcyq
            go_wp2_with fail
            go_roundw
            case rel => exact ⟨i + 3, D3 ++ [61], by omega, by go_num, BZ, HDF, KZ, OZ⟩
            case measure => simp [intOf]; omega
    · have hltI : ¬ (i : Int) < l.length := by omega
      have HF := Lib.hid (show D = raw l by rw [← hD.out, List.drop_eq_nil_of_le (Nat.le_of_not_lt hlt)]; simp [raw])
      have hcv := hO.out.rd.conv
      clear hD hO
      go_wp2
      go_ret
      exact ⟨by rw [HF.out]; rfl, hKw.out⟩
end Go.Proofs.YtdhhlcgmkkpldaaGreatDoor
