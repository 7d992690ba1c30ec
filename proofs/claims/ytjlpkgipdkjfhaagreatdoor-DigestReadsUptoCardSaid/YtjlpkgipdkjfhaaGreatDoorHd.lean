import Derived.Test.YtjlpkgipdkjfhaaGreatDoorHx
import Derived.Deep.RegionHeld3
import Derived.Deep.CutBlock
import Derived.Deep.CutRange
import Derived.Test.YtjlpkgipdkjfhaaGreatDoorHy
import Derived.Test.YtjlpkgipdkjfhaaGreatDoorHe
import Derived.Lib.SlBytesConst
set_option linter.unusedVariables false
set_option linter.unusedSimpArgs false
namespace Go.Proofs.YtjlpkgipdkjfhaaGreatDoor.Bk
open Go.ChangeShapes Go.WideShapes Go.ChangeAt Go.RowKit
open Bx
def num3 (r : B) : Nat := num (r.getD 0 0) (r.getD 1 0) (r.getD 2 0)
theorem raw4 (r : B) (h : r ≠ []) : raw r = ([sg (num3 r / 262144), sg (num3 r / 4096 % 64)] ++ ((if 1 < r.length then [sg (num3 r / 64 % 64)] else [61]) ++ (if 2 < r.length then [sg (num3 r % 64)] else [61]))) ++ raw (r.drop 3) := by
  match r, h with
  | [a], _ => rfl
  | [a, b], _ => rfl
  | a :: b :: c :: r, _ =>
    rw [if_pos (by simp), if_pos (by simp)]
    rfl
def pnum (l : B) (i : Nat) : Nat → Nat
  | 0 => 0
  | m + 1 => 256 * pnum l i m + (l.getD (i + m) 0).toNat
theorem pnum_3 (l : B) (i : Nat) : pnum l i 3 = num3 (l.drop i) := by
  have e : ∀ j, (l.drop i).getD j 0 = l.getD (i + j) 0 := fun j => by simp [List.getD]
  unfold num3 num
  rw [e, e, e]
  simp only [pnum, Nat.add_zero]
  omega
theorem pnum_lt (l : B) (i : Nat) : ∀ m, pnum l i m < 256 ^ m
  | 0 => Nat.zero_lt_one
  | m + 1 => by
    have h := pnum_lt l i m
    have h2 := (l.getD (i + m) 0).toNat_lt
    rw [Nat.pow_succ]
    simp only [pnum]
    omega
theorem pnum_bd (l : B) (i m : Nat) (h : m ≤ 3) : pnum l i m < 16777216 := Nat.lt_of_lt_of_le (pnum_lt l i m) (Nat.pow_le_pow_right (by decide) h : 256 ^ m ≤ 256 ^ 3)
set_option maxRecDepth 100000 in
set_option maxHeartbeats 4000000 in
theorem rraw_any (v : Value) (l : B) (w : World) (hR : BRd v l w) (hl : l.length ≤ 1000000) : Calls Tryz.prog 160 #[v] w fun e w' => e = .returned (sV (raw l)) ∧ Kept w w' := by
  obtain ⟨a, c, hv⟩ := hR.slice
  have HB := Lib.hid (BOld.of hR)
  have hle := raw_le l
  have HLE := Lib.hid (show (raw l).length ≤ 2000004 by omega)
  clear hR hle
  subst hv
  go_enter Tryz.func160, Tryz.ntmps160
  go_wp2_with fail
  go_loopw [3, 4] (fun vm vi wr => ∃ (i : Nat) (D : B), i ≤ l.length + 2 ∧ vi = .int .i64 i ∧ Hid (BOld w.heap.size (.slice a l.length c) l wr) ∧ Hid (D ++ raw (l.drop i) = raw l) ∧ Hid (Kept w wr) ∧ Hid (OwnB w.heap.size vm D wr)) (fun _ vi _ => l.length + 3 - (intOf vi).toNat)
  case atStart => exact ⟨0, [], Nat.zero_le _, rfl, HB, Lib.hid rfl, Lib.hid (Kept.refl w), Lib.hid (OwnB.nil _ _)⟩
  case round =>
    obtain ⟨i, D, hi, rfl, hB, hD, hKw, hO⟩ := hrel
    obtain ⟨ta, tc, htv⟩ := own_slice hO.out
    have hDl := len_le hD.out
    have hDl := Nat.le_trans hDl HLE.out
    have hsz := hKw.out.size
    subst htv
    by_cases hlt : i < l.length
    · have hltI : (i : Int) < l.length := by omega
      have hne : l.drop i ≠ [] := fun e => by rw [List.drop_eq_nil_iff] at e; omega
      have HR4 := Lib.hid (raw4 (l.drop i) hne)
      rw [List.drop_drop, List.length_drop] at HR4
      clear hne
      go_upto_block 2 with (fail)
      go_cut [5, 6] from 7 to 71 (fun vn vk wx => vn = .int .i64 (num3 (l.drop i)) ∧ vk = .int .i64 (i + 3) ∧ wx = wr)
      case first =>
        clear hD HLE HR4 hO
        go_wp2_with fail
        go_loopw [5, 6] (fun vn vk wx => ∃ k : Nat, i ≤ k ∧ k ≤ i + 3 ∧ vn = .int .i64 (pnum l i (k - i)) ∧ vk = .int .i64 k ∧ wx = wr) (fun _ vk _ => i + 3 - (intOf vk).toNat)
        case atStart => exact ⟨i, Nat.le_refl _, by omega, by simp [pnum], rfl, rfl⟩
        case round =>
          obtain ⟨k, hk1, hk2, rfl, rfl, rfl⟩ := hrel
          by_cases hk3 : k < i + 3
          · have hk3I : (k : Int) < (i : Int) + 3 := by omega
            have hbd := pnum_bd l i (k - i) (by omega)
            have hS : pnum l i (k + 1 - i) = 256 * pnum l i (k - i) + (l.getD k 0).toNat := by
              rw [show k + 1 - i = (k - i) + 1 by omega, pnum, show i + (k - i) = k by omega]
            by_cases hkl : k < l.length
            · have hklI : (k : Int) < l.length := by omega
              obtain ⟨x, hx⟩ : ∃ x, l[k]? = some x := ⟨_, List.getElem?_eq_getElem hkl⟩
              have hx2 : l.getD k 0 = x := by simp [List.getD, hx]
              obtain ⟨g, o, cp, hv', hcp, cell⟩ := hB.out.1.at hx
              cases hv'
              have hxl := x.toNat_lt
              rw [hx2] at hS
              clear hx hx2
              generalize pnum l i (k - i) = n at *
              go_wp2
              go_roundw
              case rel => exact ⟨k + 1, by omega, by omega, by rw [hS]; go_num, by go_num, trivial⟩
              case measure => simp [intOf]; omega
            · have hklI : ¬ (k : Int) < l.length := by omega
              have hx2 : l.getD k 0 = 0 := by simp [List.getD, List.getElem?_eq_none (Nat.le_of_not_lt hkl)]
              rw [hx2, show (0 : UInt8).toNat = 0 from rfl, Nat.add_zero] at hS
              clear hx2
              generalize pnum l i (k - i) = n at *
              go_wp2
              go_roundw
              case rel => exact ⟨k + 1, by omega, by omega, by rw [hS]; go_num, by go_num, trivial⟩
              case measure => simp [intOf]; omega
          · have hk3I : ¬ (k : Int) < (i : Int) + 3 := by omega
            have hke : k = i + 3 := by omega
            have hn := pnum_3 l i
            go_wp2
            go_meet
            case rel => exact ⟨by first | rfl | rw [hke, show i + 3 - i = 3 by omega, hn], by first | rfl | (rw [hke]; go_num), rfl⟩
      case rest =>
        obtain ⟨rfl, rfl, hwc⟩ := hcut
        have hwd := hwc.symm
        clear hwc
        subst hwd
        have hnl := num_lt ((l.drop i).getD 0 0) ((l.drop i).getD 1 0) ((l.drop i).getD 2 0)
        rw [show num ((l.drop i).getD 0 0) ((l.drop i).getD 1 0) ((l.drop i).getD 2 0) = num3 (l.drop i) from rfl] at hnl
        generalize num3 (l.drop i) = n at *
        have q0 : IntKind.i64.wrap ((n : Int) / 262144) = ((n / 262144 : Nat) : Int) := by rw [wraps_i64' _ (by omega) (by omega)]; omega
        have q1 : IntKind.i64.wrap ((n : Int) / 4096) = ((n / 4096 : Nat) : Int) := by rw [wraps_i64' _ (by omega) (by omega)]; omega
        have q2 : ((n / 4096 : Nat) : Int).tmod 64 = ((n / 4096 % 64 : Nat) : Int) := by rw [Int.tmod_eq_emod_of_nonneg (by omega)]; omega
        have l0 : n / 262144 < 64 := by omega
        have l1 : n / 4096 % 64 < 64 := by omega
        have s0 := sg_at (n / 262144)
        have s1 := sg_at (n / 4096 % 64)
        dsimp only at s0 s1
        have l2 : n / 64 % 64 < 64 := by omega
        have l3 : n % 64 < 64 := by omega
        have e2 : (n : Int) / 64 % 64 = ((n / 64 % 64 : Nat) : Int) := by omega
        have e3 : (n : Int) % 64 = ((n % 64 : Nat) : Int) := by omega
        have s2 := sg_at (n / 64 % 64)
        have s3 := sg_at (n % 64)
        dsimp only at s2 s3
        generalize n / 262144 = d0 at *
        generalize n / 4096 % 64 = d1 at *
        generalize n / 64 % 64 = d2 at *
        generalize n % 64 = d3 at *
        generalize n / 4096 = m0 at *
        have i2 : (d2 : Int) < 64 := by omega
        have i3 : (d3 : Int) < 64 := by omega
        have i0 : (d0 : Int) < 64 := by omega
        have i1 : (d1 : Int) < 64 := by omega
        go_wp2_with fail
        refine wp_region_held_drew (S := (fun _ => True)) (by kernel_rfl) trivial (fun hS0 => ?_)
        refine wpAnyH_take (i := 0) (oi := { dst := some 33, op := Go.Op.move (Go.Operand.tmp 3), type := 25, pos := "ref.go:20", after := #[], guard := none }) (v := ?vz0) rfl (by kernel_rfl) (by kernel_rfl) (by kernel_rfl) (fun _ _ _ h => h) (Or.inl ⟨by rfl, ?yz0⟩) (by assumption) ?rz0
        case yz0 => (intro wq hSw; (try dsimp only at hSw); go_simp; try with_reducible rfl)
        simp only [Act.put, List.setIfInBounds_toArray, List.set_cons_zero, List.set_cons_succ]
        refine wpAnyH_take (i := 1) (oi := { dst := some 34, op := Go.Op.move (Go.Operand.tmp 5), type := 3, pos := "ref.go:20", after := #[], guard := none }) (v := ?vz1) rfl (by kernel_rfl) (by kernel_rfl) (by kernel_rfl) (fun _ _ _ h => h) (Or.inl ⟨by rfl, ?yz1⟩) (by assumption) ?rz1
        case yz1 => (intro wq hSw; (try dsimp only at hSw); go_simp; try with_reducible rfl)
        simp only [Act.put, List.setIfInBounds_toArray, List.set_cons_zero, List.set_cons_succ]
        refine wpAnyH_take (i := 2) (oi := { dst := some 35, op := Go.Op.binOp Go.BinOp.quo 3 (Go.Operand.tmp 34) (Go.Operand.const (Go.Value.int Go.IntKind.i64 262144)) 3, type := 3, pos := "ref.go:20", after := #[{ on := 1, ground := Go.Ground.data }], guard := none }) (v := ?vz2) rfl (by kernel_rfl) (by kernel_rfl) (by kernel_rfl) (fun _ _ _ h => h) (Or.inl ⟨by rfl, ?yz2⟩) (by assumption) ?rz2
        case yz2 => (intro wq hSw; (try dsimp only at hSw); go_simp; try with_reducible rfl)
        simp only [Act.put, List.setIfInBounds_toArray, List.set_cons_zero, List.set_cons_succ]
        refine wpAnyH_take (i := 3) (oi := { dst := some 36, op := Go.Op.index 9 (Go.Operand.const (Go.Value.string { data := #[65, 66, 67, 68, 69, 70, 71, 72, 73, 74, 75, 76, 77, 78, 79, 80, 81, 82, 83, 84, 85, 86, 87, 88, 89, 90, 97, 98, 99, 100, 101, 102, 103, 104, 105, 106, 107, 108, 109, 110, 111, 112, 113, 114, 115, 116, 117, 118, 119, 120, 121, 122, 48, 49, 50, 51, 52, 53, 54, 55, 56, 57, 43, 47] })) (Go.Operand.tmp 35), type := 5, pos := "ref.go:20", after := #[{ on := 2, ground := Go.Ground.data }], guard := none }) (v := ?vz3) rfl (by kernel_rfl) (by kernel_rfl) (by kernel_rfl) (fun _ _ _ h => h) (Or.inl ⟨by rfl, ?yz3⟩) (by assumption) ?rz3
        case yz3 => (intro wq hSw; (try dsimp only at hSw); go_simp; try with_reducible rfl)
        simp only [Act.put, List.setIfInBounds_toArray, List.set_cons_zero, List.set_cons_succ]
        refine wpAnyH_take (i := 4) (oi := { dst := some 37, op := Go.Op.move (Go.Operand.tmp 5), type := 3, pos := "ref.go:20", after := #[], guard := none }) (v := ?vz4) rfl (by kernel_rfl) (by kernel_rfl) (by kernel_rfl) (fun _ _ _ h => h) (Or.inl ⟨by rfl, ?yz4⟩) (by assumption) ?rz4
        case yz4 => (intro wq hSw; (try dsimp only at hSw); go_simp; try with_reducible rfl)
        simp only [Act.put, List.setIfInBounds_toArray, List.set_cons_zero, List.set_cons_succ]
        refine wpAnyH_take (i := 5) (oi := { dst := some 38, op := Go.Op.binOp Go.BinOp.quo 3 (Go.Operand.tmp 37) (Go.Operand.const (Go.Value.int Go.IntKind.i64 4096)) 3, type := 3, pos := "ref.go:20", after := #[{ on := 4, ground := Go.Ground.data }], guard := none }) (v := ?vz5) rfl (by kernel_rfl) (by kernel_rfl) (by kernel_rfl) (fun _ _ _ h => h) (Or.inl ⟨by rfl, ?yz5⟩) (by assumption) ?rz5
        case yz5 => (intro wq hSw; (try dsimp only at hSw); go_simp; try with_reducible rfl)
        simp only [Act.put, List.setIfInBounds_toArray, List.set_cons_zero, List.set_cons_succ]
        refine wpAnyH_take (i := 6) (oi := { dst := some 39, op := Go.Op.binOp Go.BinOp.rem 3 (Go.Operand.tmp 38) (Go.Operand.const (Go.Value.int Go.IntKind.i64 64)) 3, type := 3, pos := "ref.go:20", after := #[{ on := 5, ground := Go.Ground.data }], guard := none }) (v := ?vz6) rfl (by kernel_rfl) (by kernel_rfl) (by kernel_rfl) (fun _ _ _ h => h) (Or.inl ⟨by rfl, ?yz6⟩) (by assumption) ?rz6
        case yz6 => (intro wq hSw; (try dsimp only at hSw); go_simp; try with_reducible rfl)
        simp only [Act.put, List.setIfInBounds_toArray, List.set_cons_zero, List.set_cons_succ]
        refine wpAnyH_take (i := 7) (oi := { dst := some 40, op := Go.Op.index 9 (Go.Operand.const (Go.Value.string { data := #[65, 66, 67, 68, 69, 70, 71, 72, 73, 74, 75, 76, 77, 78, 79, 80, 81, 82, 83, 84, 85, 86, 87, 88, 89, 90, 97, 98, 99, 100, 101, 102, 103, 104, 105, 106, 107, 108, 109, 110, 111, 112, 113, 114, 115, 116, 117, 118, 119, 120, 121, 122, 48, 49, 50, 51, 52, 53, 54, 55, 56, 57, 43, 47] })) (Go.Operand.tmp 39), type := 5, pos := "ref.go:20", after := #[{ on := 6, ground := Go.Ground.data }], guard := none }) (v := ?vz7) rfl (by kernel_rfl) (by kernel_rfl) (by kernel_rfl) (fun _ _ _ h => h) (Or.inl ⟨by rfl, ?yz7⟩) (by assumption) ?rz7
        case yz7 => (intro wq hSw; (try dsimp only at hSw); go_simp; try with_reducible rfl)
        simp only [Act.put, List.setIfInBounds_toArray, List.set_cons_zero, List.set_cons_succ]
        refine wpAnyH_ready (rs := [8]) (by kernel_rfl) (by simp) (AllReadyH.cons (o := { dst := some 41, op := Go.Op.buildSlice 25 2 #[(0, Go.Operand.tmp 36), (1, Go.Operand.tmp 40)], type := 25, pos := "ref.go:20", after := #[{ on := 3, ground := Go.Ground.data }, { on := 7, ground := Go.Ground.data }], guard := none }) rfl (fun K hK => ?_) AllReadyH.nil)
        go_simp
        have kx : Kept wr (wr.alloc (.cells #[.int .u8 (sg d0).toNat, .int .u8 (sg d1).toNat] 5)).drew := ((Kept.refl wr).alloc _).drew
        have OX := Lib.hid (hO.out.kept kx)
        have KX := Lib.hid (hKw.out.trans kx)
        have BX := Lib.hid (hB.out.kept kx)
        have hbx := (brd_new wr [sg d0, sg d1] 5 #[.int .u8 (sg d0).toNat, .int .u8 (sg d1).toNat] rfl 2 (Nat.le_refl 2) (0, 0)).kept ((Kept.refl _).drew)
        have HBX := Lib.hid hbx
        have hszx := KX.out.size
        clear kx hO hKw hB hbx
        generalize (wr.alloc (.cells #[.int .u8 (sg d0).toNat, .int .u8 (sg d1).toNat] 5)).drew = x at *
        refine Shut.out hK _ _ trivial (fun hSb => ?_)
        clear hK K
        try simp only [Act.put, List.setIfInBounds_toArray, List.set_cons_zero, List.set_cons_succ]
        refine wpAnyH_ready (rs := [9]) (by kernel_rfl) (by simp) (AllReadyH.cons (o := { dst := some 42, op := Go.Op.call { callee := Go.Callee.builtin Go.Builtin.append, args := #[Go.Operand.tmp 33, Go.Operand.tmp 41], argTypes := #[25, 25] }, type := 25, pos := "ref.go:20", after := #[{ on := 0, ground := Go.Ground.data }, { on := 8, ground := Go.Ground.data }], guard := none }) rfl (fun K hK => ?_) AllReadyH.nil)
        rw [if_pos (by rfl)]
        refine wp_sliceB (.tmp 33) (.tmp 41) rfl w.heap.size (.slice ta D.length tc) _ D [sg d0, sg d1] (by rfl) OX.out (by rfl) HBX.out (by simp; omega) hszx ?_
        intro v' z hz hgz
        have KZ := Lib.hid (kept_row KX.out hgz (fun g hg => (World.ownsRow.lt OX.out g hg).1))
        have BZ := Lib.hid (BX.out.grow hgz (fun g hg => (World.ownsRow.lt OX.out g hg).1))
        have OZ := Lib.hid hz
        have HDL := Lib.hid (show (D ++ [sg d0, sg d1]).length ≤ 2000006 by simp; omega)
        have HDD := Lib.hid (show ∀ A C R : B, (((D ++ [sg d0, sg d1]) ++ A) ++ C) ++ R = D ++ (([sg d0, sg d1] ++ (A ++ C)) ++ R) from fun A C R => by simp)
        obtain ⟨za, zc, hzv⟩ := own_slice hz
        subst hzv
        have hszz := KZ.out.size
        clear hz hgz OX KX BX HBX s0 s1 q0 q1 q2 l0 l1
        generalize D ++ [sg d0, sg d1] = D2 at *
        refine Shut.out hK _ _ trivial (fun hSb => ?_)
        clear hK K
        try simp only [Act.put, List.setIfInBounds_toArray, List.set_cons_zero, List.set_cons_succ]
        refine wpAnyH_take (i := 10) (oi := { dst := some 3, op := Go.Op.assign (Go.Operand.tmp 42), type := 25, pos := "ref.go:20", after := #[{ on := 9, ground := Go.Ground.data }, { on := 9, ground := Go.Ground.chain }, { on := 0, ground := Go.Ground.phase }, { on := 1, ground := Go.Ground.phase }, { on := 2, ground := Go.Ground.phase }, { on := 3, ground := Go.Ground.phase }, { on := 4, ground := Go.Ground.phase }, { on := 5, ground := Go.Ground.phase }, { on := 6, ground := Go.Ground.phase }, { on := 7, ground := Go.Ground.phase }, { on := 8, ground := Go.Ground.phase }, { on := 9, ground := Go.Ground.phase }], guard := none }) (v := ?vz10) rfl (by kernel_rfl) (by kernel_rfl) (by kernel_rfl) (fun _ _ _ h => h) (Or.inl ⟨by rfl, ?yz10⟩) (by assumption) ?rz10
        case yz10 => (intro wq hSw; (try dsimp only at hSw); go_simp; try with_reducible rfl)
        simp only [Act.put, List.setIfInBounds_toArray, List.set_cons_zero, List.set_cons_succ]
        refine wpAnyH_done (by kernel_rfl) ?_ _
        clear hSb i0 i1
        by_cases h1 : (i : Int) + 1 < l.length
        · by_cases h2 : (i : Int) + 2 < l.length
          · have HDF := Lib.hid (show ((D2 ++ [sg d2]) ++ [sg d3]) ++ raw (l.drop (i + 3)) = raw l by rw [HDD.out, ← hD.out, HR4.out, if_pos (show 1 < l.length - i by omega), if_pos (show 2 < l.length - i by omega)])
            clear HDD HR4 hD
            have kyp : Kept z (z.alloc (.cells #[.int .u8 (sg d2).toNat] 5)) := (Kept.refl z).alloc _
            have OYp := Lib.hid (OZ.out.kept kyp)
            have KYp := Lib.hid (KZ.out.trans kyp)
            have BYp := Lib.hid (BZ.out.kept kyp)
            have hcyp : (z.alloc (.cells #[.int .u8 (sg d2).toNat] 5)).cell? ⟨z.heap.size, 0, none⟩ = some (.int .u8 (sg d2).toNat) := (Kept.refl _).new 0 rfl
            have hszyp := KYp.out.size
            clear OZ KZ BZ kyp
            go_wp2_with (at_builtin; refine wpList_byteB rfl _ _ rfl w.heap.size (.slice za D2.length zc) D2 (sg d2) z.heap.size rfl OYp.out rfl hcyp (by have := HDL.out; omega) hszyp ?_)
            intro vp z2 hz hgz
            have KZ := Lib.hid (kept_row KYp.out hgz (fun g hg => (World.ownsRow.lt OYp.out g hg).1))
            have BZ := Lib.hid (BYp.out.grow hgz (fun g hg => (World.ownsRow.lt OYp.out g hg).1))
            have OZ := Lib.hid hz
            have HDL := Lib.hid (show (D2 ++ [sg d2]).length ≤ 2000007 by have := HDL.out; simp; omega)
            obtain ⟨ya, yc, hyv⟩ := own_slice hz
            subst hyv
            clear hz hgz OYp KYp BYp hcyp
            generalize D2 ++ [sg d2] = D3 at *
            have kyq : Kept z2 (z2.alloc (.cells #[.int .u8 (sg d3).toNat] 5)) := (Kept.refl z2).alloc _
            have OYq := Lib.hid (OZ.out.kept kyq)
            have KYq := Lib.hid (KZ.out.trans kyq)
            have BYq := Lib.hid (BZ.out.kept kyq)
            have hcyq : (z2.alloc (.cells #[.int .u8 (sg d3).toNat] 5)).cell? ⟨z2.heap.size, 0, none⟩ = some (.int .u8 (sg d3).toNat) := (Kept.refl _).new 0 rfl
            have hszyq := KYq.out.size
            clear OZ KZ BZ kyq
            go_wp2_with (at_builtin; refine wpList_byteB rfl _ _ rfl w.heap.size (.slice ya D3.length yc) D3 (sg d3) z2.heap.size rfl OYq.out rfl hcyq (by have := HDL.out; omega) hszyq ?_)
            intro vq z3 hz hgz
            have KZ := Lib.hid (kept_row KYq.out hgz (fun g hg => (World.ownsRow.lt OYq.out g hg).1))
            have BZ := Lib.hid (BYq.out.grow hgz (fun g hg => (World.ownsRow.lt OYq.out g hg).1))
            have OZ := Lib.hid hz
            clear hz hgz OYq KYq BYq hcyq
            go_wp2_with fail
            go_roundw
            case rel => exact ⟨i + 3, D3 ++ [sg d3], by omega, by go_num, BZ, HDF, KZ, OZ⟩
            case measure => simp [intOf]; omega
          · have HDF := Lib.hid (show ((D2 ++ [sg d2]) ++ [61]) ++ raw (l.drop (i + 3)) = raw l by rw [HDD.out, ← hD.out, HR4.out, if_pos (show 1 < l.length - i by omega), if_neg (show ¬ 2 < l.length - i by omega)])
            clear HDD HR4 hD
            have kyp : Kept z (z.alloc (.cells #[.int .u8 (sg d2).toNat] 5)) := (Kept.refl z).alloc _
            have OYp := Lib.hid (OZ.out.kept kyp)
            have KYp := Lib.hid (KZ.out.trans kyp)
            have BYp := Lib.hid (BZ.out.kept kyp)
            have hcyp : (z.alloc (.cells #[.int .u8 (sg d2).toNat] 5)).cell? ⟨z.heap.size, 0, none⟩ = some (.int .u8 (sg d2).toNat) := (Kept.refl _).new 0 rfl
            have hszyp := KYp.out.size
            clear OZ KZ BZ kyp
            go_wp2_with (at_builtin; refine wpList_byteB rfl _ _ rfl w.heap.size (.slice za D2.length zc) D2 (sg d2) z.heap.size rfl OYp.out rfl hcyp (by have := HDL.out; omega) hszyp ?_)
            intro vp z2 hz hgz
            have KZ := Lib.hid (kept_row KYp.out hgz (fun g hg => (World.ownsRow.lt OYp.out g hg).1))
            have BZ := Lib.hid (BYp.out.grow hgz (fun g hg => (World.ownsRow.lt OYp.out g hg).1))
            have OZ := Lib.hid hz
            have HDL := Lib.hid (show (D2 ++ [sg d2]).length ≤ 2000007 by have := HDL.out; simp; omega)
            obtain ⟨ya, yc, hyv⟩ := own_slice hz
            subst hyv
            clear hz hgz OYp KYp BYp hcyp
            generalize D2 ++ [sg d2] = D3 at *
            have kyq : Kept z2 (z2.alloc (.cells #[.int .u8 (61 : UInt8).toNat] 5)) := (Kept.refl z2).alloc _
            have OYq := Lib.hid (OZ.out.kept kyq)
            have KYq := Lib.hid (KZ.out.trans kyq)
            have BYq := Lib.hid (BZ.out.kept kyq)
            have hcyq : (z2.alloc (.cells #[.int .u8 (61 : UInt8).toNat] 5)).cell? ⟨z2.heap.size, 0, none⟩ = some (.int .u8 (61 : UInt8).toNat) := (Kept.refl _).new 0 rfl
            have hszyq := KYq.out.size
            clear OZ KZ BZ kyq
            go_wp2_with (at_builtin; refine wpList_byteB rfl _ _ rfl w.heap.size (.slice ya D3.length yc) D3 (61 : UInt8) z2.heap.size rfl OYq.out rfl hcyq (by have := HDL.out; omega) hszyq ?_)
            intro vq z3 hz hgz
            have KZ := Lib.hid (kept_row KYq.out hgz (fun g hg => (World.ownsRow.lt OYq.out g hg).1))
            have BZ := Lib.hid (BYq.out.grow hgz (fun g hg => (World.ownsRow.lt OYq.out g hg).1))
            have OZ := Lib.hid hz
            clear hz hgz OYq KYq BYq hcyq
            go_wp2_with fail
            go_roundw
            case rel => exact ⟨i + 3, D3 ++ [61], by omega, by go_num, BZ, HDF, KZ, OZ⟩
            case measure => simp [intOf]; omega
        · by_cases h2 : (i : Int) + 2 < l.length
          · exact absurd h2 (by omega)
          · have HDF := Lib.hid (show ((D2 ++ [61]) ++ [61]) ++ raw (l.drop (i + 3)) = raw l by rw [HDD.out, ← hD.out, HR4.out, if_neg (show ¬ 1 < l.length - i by omega), if_neg (show ¬ 2 < l.length - i by omega)])
            clear HDD HR4 hD
            have kyp : Kept z (z.alloc (.cells #[.int .u8 (61 : UInt8).toNat] 5)) := (Kept.refl z).alloc _
            have OYp := Lib.hid (OZ.out.kept kyp)
            have KYp := Lib.hid (KZ.out.trans kyp)
            have BYp := Lib.hid (BZ.out.kept kyp)
            have hcyp : (z.alloc (.cells #[.int .u8 (61 : UInt8).toNat] 5)).cell? ⟨z.heap.size, 0, none⟩ = some (.int .u8 (61 : UInt8).toNat) := (Kept.refl _).new 0 rfl
            have hszyp := KYp.out.size
            clear OZ KZ BZ kyp
            go_wp2_with (at_builtin; refine wpList_byteB rfl _ _ rfl w.heap.size (.slice za D2.length zc) D2 (61 : UInt8) z.heap.size rfl OYp.out rfl hcyp (by have := HDL.out; omega) hszyp ?_)
            intro vp z2 hz hgz
            have KZ := Lib.hid (kept_row KYp.out hgz (fun g hg => (World.ownsRow.lt OYp.out g hg).1))
            have BZ := Lib.hid (BYp.out.grow hgz (fun g hg => (World.ownsRow.lt OYp.out g hg).1))
            have OZ := Lib.hid hz
            have HDL := Lib.hid (show (D2 ++ [61]).length ≤ 2000007 by have := HDL.out; simp; omega)
            obtain ⟨ya, yc, hyv⟩ := own_slice hz
            subst hyv
            clear hz hgz OYp KYp BYp hcyp
            generalize D2 ++ [61] = D3 at *
            have kyq : Kept z2 (z2.alloc (.cells #[.int .u8 (61 : UInt8).toNat] 5)) := (Kept.refl z2).alloc _
            have OYq := Lib.hid (OZ.out.kept kyq)
            have KYq := Lib.hid (KZ.out.trans kyq)
            have BYq := Lib.hid (BZ.out.kept kyq)
            have hcyq : (z2.alloc (.cells #[.int .u8 (61 : UInt8).toNat] 5)).cell? ⟨z2.heap.size, 0, none⟩ = some (.int .u8 (61 : UInt8).toNat) := (Kept.refl _).new 0 rfl
            have hszyq := KYq.out.size
            clear OZ KZ BZ kyq
            go_wp2_with (at_builtin; refine wpList_byteB rfl _ _ rfl w.heap.size (.slice ya D3.length yc) D3 (61 : UInt8) z2.heap.size rfl OYq.out rfl hcyq (by have := HDL.out; omega) hszyq ?_)
            intro vq z3 hz hgz
            have KZ := Lib.hid (kept_row KYq.out hgz (fun g hg => (World.ownsRow.lt OYq.out g hg).1))
            have BZ := Lib.hid (BYq.out.grow hgz (fun g hg => (World.ownsRow.lt OYq.out g hg).1))
            have OZ := Lib.hid hz
            clear hz hgz OYq KYq BYq hcyq
            go_wp2_with fail
            go_roundw
            case rel => exact ⟨i + 3, D3 ++ [61], by omega, by go_num, BZ, HDF, KZ, OZ⟩
            case measure => simp [intOf]; omega
    · have hltI : ¬ (i : Int) < l.length := by omega
      have HF := Lib.hid (show D = raw l by rw [← hD.out, List.drop_eq_nil_of_le (Nat.le_of_not_lt hlt)]; simp [raw])
      have hcv := hO.out.rd.conv
      clear hD hO
      go_wp2
      go_ret
      exact ⟨by rw [HF.out]; rfl, hKw.out⟩
theorem BRd.to {g o n c : Nat} {l : B} {w : World} (h : BRd (.slice (some ⟨g, o, none⟩) n c) l w) (j : Nat) (hj : j ≤ l.length) : BRd (.slice (some ⟨g, o, none⟩) j c) (l.take j) w := by
  obtain ⟨a, c', hv, _, h⟩ := h
  cases hv
  have hlen : (l.take j).length = j := by simp; omega
  refine ⟨some ⟨g, o, none⟩, c, by rw [hlen], fun e => (by cases e), fun hne => ?_⟩
  obtain ⟨g', o', ha, hc, h⟩ := h (by rintro rfl; simp at hne)
  cases ha
  refine ⟨g, o, rfl, by rw [hlen]; omega, fun k x hx => ?_⟩
  rw [List.getElem?_take] at hx
  split at hx
  · exact h _ _ hx
  · cases hx
end Go.Proofs.YtjlpkgipdkjfhaaGreatDoor.Bk
namespace Go.Proofs.YtjlpkgipdkjfhaaGreatDoor.Bk.Hd
open Go.ChangeShapes Go.WideShapes Go.ChangeAt Go.RowKit Go.Shelf
def aE (l : List Hdr) : Int := if 50 < l.length then 4 else if l.all okH = true then 0 else 1
theorem aE_ok {l : List Hdr} (h : okA l = true) : aE l = 0 := by
  obtain ⟨h1, h2⟩ := okA_all h
  unfold aE
  rw [if_neg (by omega), if_pos (by rw [List.all_eq_true]; exact h1)]
theorem aE_long {l : List Hdr} (h : 50 < l.length) : aE l = 4 ∧ all l = none := by
  refine ⟨if_pos h, ?_⟩
  unfold all okA
  rw [decide_eq_false (by omega), Bool.and_false]; rfl
theorem aE_bad {l : List Hdr} (h : ¬ 50 < l.length) {k : Nat} {x : Hdr} (hx : l[k]? = some x) (hk : okH x = false) : aE l = 1 ∧ all l = none := by
  have : l.all okH = false := by rw [List.all_eq_false]; exact ⟨x, List.mem_of_getElem? hx, by rw [hk]; decide⟩
  unfold aE all okA
  rw [if_neg h, this]
  exact ⟨rfl, rfl⟩
theorem lns_take {l : List Hdr} {k : Nat} {x : Hdr} (h : l[k]? = some x) : lns (l.take (k + 1)) = lns (l.take k) ++ lnH x := by
  unfold lns
  rw [List.take_add_one, h, List.flatMap_append]; simp
theorem allh_take {l : List Hdr} {k : Nat} {x : Hdr} (h : ∀ j y, j < k → l[j]? = some y → okH y = true) (hx : l[k]? = some x) (hp : okH x = true) : ∀ j y, j < k + 1 → l[j]? = some y → okH y = true := by
  intro j y hj hy
  by_cases q : j = k
  · subst q; rw [hx] at hy; cases hy; exact hp
  · exact h j y (by omega) hy
theorem allh_end {l : List Hdr} (h : ∀ j y, j < l.length → l[j]? = some y → okH y = true) : ∀ x ∈ l, okH x = true := by
  intro x hx
  obtain ⟨i, hi, rfl⟩ := List.mem_iff_getElem.1 hx
  exact h i _ hi (List.getElem?_eq_getElem hi)
theorem lnH_big {h : Hdr} (hk : okH h = true) : (lnH h).length ≤ 76046 := by
  have := lnH_len h
  obtain ⟨h1, h2⟩ := okH_nam hk
  have := (nam_all h1).2.2
  omega
set_option maxRecDepth 100000 in
set_option maxHeartbeats 4000000 in
theorem all_any (v : Value) (l : List Hdr) (w : World) (hR : HRd v l w) (hE : Env w) (hb : ∀ h ∈ l, h.1.length ≤ 100000000 ∧ h.2.length ≤ 100000000) :
    Calls Tryz.prog 27 #[v] w fun e w' => ∃ xv, e = .returned (.tuple #[xv, .int .i64 (aE l)]) ∧ OwnM w.heap.size xv ((all l).getD []) w' ∧ Kept w w' := by
  obtain ⟨va, vc, hvv⟩ := hR.slice
  subst hvv
  have HR := Lib.hid hR
  have HE := Lib.hid hE
  have HB := Lib.hid hb
  clear hR hE hb
  by_cases hlong : 50 < l.length
  · have hlI : (50 : Int) < l.length := by omega
    have HQ := Lib.hid (aE_long hlong)
    go_enter Tryz.func27, Tryz.ntmps27
    go_wp2
    go_ret2
    exact ⟨_, by rw [HQ.out.1]; rfl, by rw [HQ.out.2]; exact OwnM.nil _ _, Kept.refl _⟩
  · have hlI : ¬ (50 : Int) < l.length := by omega
    go_enter Tryz.func27, Tryz.ntmps27
    go_wp2_with fail
    go_loopw [4, 6, 7, 8, 14] (fun vm _ _ _ vi wr => ∃ i : Nat, i ≤ l.length ∧ vi = .int .i64 i ∧ Hid (∀ j y, j < i → l[j]? = some y → okH y = true) ∧ Hid (Kept w wr) ∧ Hid (OwnM w.heap.size vm (lns (l.take i)) wr)) (fun _ _ _ _ vi _ => l.length - (intOf vi).toNat)
    case atStart => exact ⟨0, Nat.zero_le _, rfl, Lib.hid (fun j y h => absurd h (Nat.not_lt_zero _)), Lib.hid (Kept.refl w), Lib.hid (OwnM.nil _ _)⟩
    case round =>
      obtain ⟨i, hi, rfl, hA, hK, hO⟩ := hrel
      obtain ⟨ta, tc, htv⟩ := hO.out.slice
      have hll : (lns (l.take i)).length ≤ 4000000 := by
        have := lns_len 76046 (l.take i) (fun h hh => by
          obtain ⟨j, hj, rfl⟩ := List.mem_iff_getElem.1 hh
          rw [List.getElem_take]
          exact lnH_big (hA.out j _ (by simp at hj; omega) (List.getElem?_eq_getElem (by simp at hj; omega))))
        have h2 : (l.take i).length * 76046 ≤ 50 * 76046 := Nat.mul_le_mul_right _ (by simp; omega)
        omega
      by_cases hlt : i < l.length
      · have hltI : (i : Int) < l.length := by omega
        obtain ⟨x, hx⟩ : ∃ x, l[i]? = some x := ⟨_, List.getElem?_eq_getElem hlt⟩
        obtain ⟨g, o, c, hv', hcp, c0, c1⟩ := (HR.out.kept hK.out).at hx
        obtain ⟨xn, xt⟩ := x
        simp only at c0 c1
        injection hv' with ea _ ec
        subst ea ec
        have HX := Lib.hid hx
        have HN := Lib.hid (lns_take hx)
        obtain ⟨hb1, hb2⟩ := HB.out _ (List.mem_of_getElem? hx)
        simp only at hb1 hb2
        have hsz := hK.out.size
        clear hx
        generalize lns (l.take i) = D at *
        subst htv
        have k1 := (Kept.refl wr).alloc (.cells #[sV xn, sV xt] 41)
        have d0 := (Kept.refl (wr.alloc (.cells #[sV xn, sV xt] 41))).new 0 (v := sV xn) rfl
        have d1 := (Kept.refl (wr.alloc (.cells #[sV xn, sV xt] 41))).new 1 (v := sV xt) rfl
        have K1 := Lib.hid (hK.out.trans k1)
        have O1 := Lib.hid (hO.out.kept k1)
        clear hK hO k1
        go_upto_region 7 with (fail)
        generalize wr.alloc (.cells #[sV xn, sV xt] 41) = y at *
        clear c0 c1
        go_wp2_with fail
        refine (line_any (xn, xt) _ (HE.out.kept K1.out) hb1 hb2).mono ?_
        rintro e z ⟨xv, rfl, hxo, kz⟩
        have KZ := Lib.hid (K1.out.trans kz)
        have OZ := Lib.hid (O1.out.kept kz)
        clear d0 d1 kz K1 O1
        cases hk : okH (xn, xt) with
        | false =>
          have HQ := Lib.hid (aE_bad hlong HX.out hk)
          rw [lE_no hk]
          obtain ⟨xa, xc, hxv⟩ := hxo.slice
          subst hxv
          clear hxo hk
          go_wp2
          go_ret2
          exact ⟨_, by rw [HQ.out.1]; rfl, by rw [HQ.out.2]; exact OwnM.nil _ _, KZ.out⟩
        | true =>
          have HA2 := Lib.hid (allh_take hA.out HX.out hk)
          rw [line_lnH hk, Option.getD_some] at hxo
          rw [lE_ok hk]
          have hlb := lnH_big hk
          have HXO := Lib.hid hxo.rd
          obtain ⟨xa, xc, hxv⟩ := hxo.slice
          clear hxo hk
          generalize lnH (xn, xt) = ln at *
          subst hxv
          have hszz := KZ.out.size
          go_wp2_with (at_builtin; refine wpList_sliceM rfl _ _ rfl w.heap.size _ _ D ln rfl OZ.out rfl HXO.out (by omega) hszz ?_)
          intro v4 z4 hz hgz hnb
          have K4 := Lib.hid (kept_row KZ.out hgz (fun g hg => (OZ.out.lt g hg).1))
          have O4 := Lib.hid (show OwnM w.heap.size v4 (lns (l.take (i + 1))) z4 by rw [HN.out]; exact hz)
          clear hz hgz hnb OZ KZ HXO
          go_wp2_with fail
          go_roundw
          case rel => exact ⟨i + 1, hlt, by go_num, HA2, K4, O4⟩
          case measure => simp [intOf]; omega
      · have hltI : ¬ (i : Int) < l.length := by omega
        obtain rfl : i = l.length := by omega
        rw [List.take_length] at hO hll htv
        have hok := allh_end hA.out
        have hkA : okA l = true := by unfold okA; rw [Bool.and_eq_true, List.all_eq_true]; exact ⟨hok, by simp; omega⟩
        have HQ := Lib.hid (And.intro (aE_ok hkA) (all_lnA hkA))
        have HD := Lib.hid (show lnA l = lns l ++ [13, 10] from rfl)
        clear hok hkA hA
        generalize lns l = D at *
        subst htv
        have hszz := hK.out.size
        go_wp2_with (at_builtin; refine wpList_strM rfl _ _ rfl w.heap.size _ D [13, 10] rfl hO.out rfl (by simp; omega) hszz ?_)
        intro v4 z4 hz hgz hnb
        have K4 := Lib.hid (kept_row hK.out hgz (fun g hg => (hO.out.lt g hg).1))
        obtain ⟨a4, c4, hv4⟩ := hz.slice
        have O4 := Lib.hid hz
        clear hz hgz hnb
        generalize D ++ [13, 10] = D2 at *
        subst hv4
        go_wp2
        go_ret2
        exact ⟨_, by rw [HQ.out.1]; rfl, by rw [HQ.out.2, Option.getD_some, HD.out]; exact O4.out, K4.out⟩
set_option maxRecDepth 100000 in
set_option maxHeartbeats 4000000 in
theorem hasPrefix_any (v u : Value) (l p : B) (w : World) (hv : BRd v l w) (hu : BRd u p w) (hp : p ≠ []) (hl : l.length ≤ 1000000000) (hpl : p.length ≤ 100) :
    Calls Tryz.prog 85 #[v, u] w fun e w' => e = .returned (.bool (p.isPrefixOf l)) ∧ Kept w w' := by
  have hpp := List.length_pos_iff.2 hp
  obtain ⟨va, vc, hvv⟩ := hv.slice
  obtain ⟨ua, uc, huv⟩ := hu.slice
  have HV := Lib.hid hv
  have HU := Lib.hid hu
  subst huv
  by_cases h : (p.length : Int) ≤ l.length
  · obtain ⟨g, o, rfl⟩ : ∃ g o, va = some ⟨g, o, none⟩ := by
      obtain ⟨x, hx⟩ : ∃ x, l[0]? = some x := ⟨_, List.getElem?_eq_getElem (by omega)⟩
      obtain ⟨g, o, c, h, _⟩ := hv.at hx
      rw [hvv] at h
      injection h with h
      exact ⟨g, o, h⟩
    subst hvv
    have HT := Lib.hid (hv.to p.length (by omega))
    have hcl : l.length ≤ vc := by
      obtain ⟨_, _, hw, _, hq⟩ := hv
      obtain ⟨_, _, ha, hc, _⟩ := hq (fun e => by rw [e, List.length_nil] at h; omega)
      cases hw; exact hc
    have hE := Lib.hid (fun w' (k : Kept w w') => equal_any _ _ (l.take p.length) p w' (HT.out.kept k) (HU.out.kept k))
    have hb : (l.take p.length == p) = p.isPrefixOf l := by
      rw [Bool.eq_iff_iff, beq_iff_eq, List.isPrefixOf_iff_prefix, List.prefix_iff_eq_take]
      exact eq_comm
    have htl : (l.take p.length).length = p.length := by simp; omega
    rw [hb] at hE
    have HR := Lib.hid hE.out
    clear hv hu hE hb HT htl
    generalize p.isPrefixOf l = q at *
    go_enter Tryz.func85, Tryz.ntmps85
    go_wp2_with fail
    refine (HR.out _ (Kept.refl _)).mono ?_
    rintro e y ⟨rfl, rfl⟩
    go_wp2
    go_ret
    exact ⟨rfl, Kept.refl _⟩
  · have hb : p.isPrefixOf l = false := by
      rw [Bool.eq_false_iff]
      intro e
      rw [List.isPrefixOf_iff_prefix] at e
      have := e.length_le; omega
    rw [hb]
    subst hvv
    clear hv hu hb
    go_enter Tryz.func85, Tryz.ntmps85
    go_wp2
    go_ret
    exact ⟨rfl, Kept.refl _⟩
theorem bytesOf_nat (l : B) : Lib.bytesOf (l.map fun b => (b.toNat : Int)) = l := by
  unfold Lib.bytesOf
  rw [List.map_map]
  conv => rhs; rw [← List.map_id l]
  refine List.map_congr_left fun b _ => ?_
  simp
theorem getD_nat (l : B) (i : Nat) (hi : i < l.length) : (l.map fun b => (b.toNat : Int)).getD i 0 = ((l[i]'hi).toNat : Int) := by
  rw [List.getD_eq_getElem?_getD, List.getElem?_map, List.getElem?_eq_getElem hi]; rfl
theorem indexB_any (v u : Value) (l p : B) (w : World) (hv : BRd v l w) (hu : BRd u p w) (hE : Env w) (hl : l ≠ []) (hp : p ≠ []) (hll : l.length ≤ 4000000000) (hpl : p.length ≤ 1000) :
    Calls Tryz.prog 86 #[v, u] w fun e w' => e = .returned (iV (Lib.index l p)) ∧ Kept w w' := by
  obtain ⟨m, hm⟩ := hE
  obtain ⟨a1, c1, rfl, _, h1⟩ := hv
  obtain ⟨g1, o1, rfl, hc1, h1⟩ := h1 hl
  obtain ⟨a2, c2, rfl, _, h2⟩ := hu
  obtain ⟨g2, o2, rfl, hc2, h2⟩ := h2 hp
  have hx : ∀ (q : B) x, x ∈ (q.map fun b => (b.toNat : Int)) → 0 ≤ x ∧ x < 256 := fun q x hx => by
    obtain ⟨b, _, rfl⟩ := List.mem_map.1 hx
    have := b.toNat_lt; omega
  refine (Tryz.bytes_Index_at ⟨g1, o1, none⟩ ⟨g2, o2, none⟩ l.length c1 p.length c2 (l.map fun b => (b.toNat : Int)) (p.map fun b => (b.toNat : Int)) m w (by simp) (by simp) (hx l) (hx p) (fun i hi => ?_) (fun i hi => ?_) hc1 (by omega) (by omega) hm).mono ?_
  · rw [Addr.add_lit, getD_nat l i hi]; exact h1 i _ (List.getElem?_eq_getElem hi)
  · rw [Addr.add_lit, getD_nat p i hi]; exact h2 i _ (List.getElem?_eq_getElem hi)
  · rintro e w' ⟨rfl, q, rfl⟩
    rw [bytesOf_nat, bytesOf_nat]
    exact ⟨rfl, (Kept.refl w).drewN q⟩
set_option maxRecDepth 100000 in
theorem index0_any (c : Nat) (a : Option Addr) (u : Value) (w : World) (hu : BRd u [13, 10, 13, 10] w) :
    Calls Tryz.prog 86 #[.slice a 0 c, u] w fun e w' => e = .returned (iV (-1)) ∧ Kept w w' := by
  obtain ⟨a2, c2, hv⟩ := hu.slice
  rw [show ([13, 10, 13, 10] : B).length = 4 from rfl] at hv
  subst hv
  clear hu
  go_enter Tryz.func86, Tryz.ntmps86
  go_wp2
  go_ret
  exact ⟨rfl, Kept.refl _⟩
set_option maxRecDepth 100000 in
set_option maxHeartbeats 4000000 in
theorem size_any (v : Value) (l : B) (w : World) (hR : BRd v l w) (hE : Env w) (hl : l.length ≤ 100000000) :
    Calls Tryz.prog 44 #[v] w fun e w' => e = .returned (iV (siz l)) ∧ Kept w w' := by
  have kc := fun (w : World) (C : Array Value) (n c : Nat) => Lib.run_convert_bytes_const (P := Tryz.prog) w 25 5 C n c Tryz.underlying25 Tryz.underlying5
  obtain ⟨va, vc, hvv⟩ := hR.slice
  have HR := Lib.hid hR
  have HE := Lib.hid hE
  have ka := (Kept.refl w).alloc (.cells #[.int .u8 13, .int .u8 10] 5 (2, 3))
  have KA := Lib.hid ka
  have RA := Lib.hid (brd_new w [13, 10] 5 #[.int .u8 13, .int .u8 10] rfl 2 (Nat.le_refl 2) (2, 3))
  have HP := Lib.hid (hasPrefix_any v _ l [13, 10] _ (hR.kept ka) RA.out (by decide) (by omega) (by decide))
  have HS := Lib.hid (show siz l = if List.isPrefixOf [13, 10] l = true then 2 else if 0 ≤ Lib.index l [13, 10, 13, 10] then (Lib.index l [13, 10, 13, 10]).toNat + 4 else l.length from rfl)
  clear hR hE ka
  subst hvv
  go_enter Tryz.func44, Tryz.ntmps44
  go_wp2_with fail
  refine HP.out.mono ?_
  rintro e x1 ⟨rfl, k1⟩
  have K1 := Lib.hid (KA.out.trans k1)
  clear k1 HP RA KA
  cases hp : List.isPrefixOf [13, 10] l with
  | true =>
    have HQ := Lib.hid (HS.out.trans (if_pos hp))
    clear HS hp kc
    go_wp2
    go_ret
    exact ⟨by rw [HQ.out]; rfl, K1.out⟩
  | false =>
    have HQ := Lib.hid (HS.out.trans (if_neg (by rw [hp]; decide)))
    clear HS hp
    have kb := (Kept.refl x1).alloc (.cells #[.int .u8 13, .int .u8 10, .int .u8 13, .int .u8 10] 5 (4, 5))
    have KB := Lib.hid (K1.out.trans kb)
    have RB := Lib.hid (brd_new x1 [13, 10, 13, 10] 5 #[.int .u8 13, .int .u8 10, .int .u8 13, .int .u8 10] rfl 4 (Nat.le_refl 4) (4, 5))
    have RV := Lib.hid (HR.out.kept KB.out)
    have EB := Lib.hid (HE.out.kept KB.out)
    have HI : Calls Tryz.prog 86 #[.slice va l.length vc, .slice (some ⟨x1.heap.size, 0, none⟩) 4 4] (x1.alloc (.cells #[.int .u8 13, .int .u8 10, .int .u8 13, .int .u8 10] 5 (4, 5))) fun e w' => e = .returned (iV (Lib.index l [13, 10, 13, 10])) ∧ Kept (x1.alloc (.cells #[.int .u8 13, .int .u8 10, .int .u8 13, .int .u8 10] 5 (4, 5))) w' := by
      by_cases hne : l = []
      · subst hne
        exact index0_any vc va _ _ RB.out
      · exact indexB_any _ _ l [13, 10, 13, 10] _ RV.out RB.out EB.out hne (by decide) (by omega) (by decide)
    have HX := Lib.hid HI
    have hroom := Lib.index_room l [13, 10, 13, 10]
    have hge := Lib.index_ge l [13, 10, 13, 10]
    clear HI kb RV EB RB
    generalize Lib.index l [13, 10, 13, 10] = i at *
    rw [show ([13, 10, 13, 10] : B).length = 4 from rfl] at hroom
    go_wp2_with fail
    refine HX.out.mono ?_
    rintro e x2 ⟨rfl, k2⟩
    have K2 := Lib.hid (KB.out.trans k2)
    clear k2 HX KB kc
    by_cases hi : 0 ≤ i
    · have HZ := Lib.hid (HQ.out.trans (if_pos hi))
      have hr := hroom hi
      clear hroom
      go_wp2
      go_ret
      exact ⟨by rw [HZ.out]; simp; omega, K2.out⟩
    · have HZ := Lib.hid (HQ.out.trans (if_neg hi))
      clear hroom
      go_wp2
      go_ret
      exact ⟨by rw [HZ.out]; rfl, K2.out⟩
end Go.Proofs.YtjlpkgipdkjfhaaGreatDoor.Bk.Hd
