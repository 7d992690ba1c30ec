import Derived.Test.YtjlpkgipdkjfhaaGreatDoorHx
import Derived.Test.YtjlpkgipdkjfhaaGreatDoorShelf
set_option linter.unusedVariables false
set_option linter.unusedSimpArgs false
namespace Go.Proofs.YtjlpkgipdkjfhaaGreatDoor.Bk
open Go.ChangeShapes Go.WideShapes Go.ChangeAt Go.RowKit
open Bx
set_option maxRecDepth 100000 in
theorem dig_any (x : UInt8) (w : World) : Calls Tryz.prog 263 #[.string ⟨#[65, 66, 67, 68, 69, 70, 71, 72, 73, 74, 75, 76, 77, 78, 79, 80, 81, 82, 83, 84, 85, 86, 87, 88, 89, 90, 97, 98, 99, 100, 101, 102, 103, 104, 105, 106, 107, 108, 109, 110, 111, 112, 113, 114, 115, 116, 117, 118, 119, 120, 121, 122, 48, 49, 50, 51, 52, 53, 54, 55, 56, 57, 43, 47]⟩, .int .u8 x.toNat] w fun e w' => e = .returned (iV (dg x)) ∧ w' = w := by
  refine (Tryz.strings_IndexByte _ (x.toNat : Int) w).mono ?_
  rintro e y ⟨rfl, rfl⟩
  exact ⟨by rw [show ((x.toNat : Int).toNat.toUInt8) = x by simp]; rfl, rfl⟩
def RdR (B0 : Nat) (s : B) (v : Value) (w : World) : Prop := ∃ xv, OwnB B0 xv ((rd 0 0 s).getD []) w ∧ v = .tuple #[xv, .bool (rd 0 0 s).isSome]
theorem rd_step {s : B} {i : Nat} {x : UInt8} (hx : s[i]? = some x) (n k : Nat) : rd n k (s.drop i) = if dg x < 0 then none
    else if k = 0 then rd (dg x).toNat 6 (s.drop (i + 1))
    else (rd ((64 * n + (dg x).toNat) % 2 ^ (k - 2)) (k - 2) (s.drop (i + 1))).map (UInt8.ofNat ((64 * n + (dg x).toNat) / 2 ^ (k - 2)) :: ·) := by
  obtain ⟨hi, rfl⟩ := List.getElem?_eq_some_iff.1 hx
  rw [List.drop_eq_getElem_cons hi, rd]
theorem rd_end {s : B} {i : Nat} (h : s.length ≤ i) (n k : Nat) : rd n k (s.drop i) = some [] := by rw [List.drop_eq_nil_of_le h, rd]
theorem map_app {o : Option B} {D : B} {u : UInt8} : (o.map (u :: ·)).map (D ++ ·) = o.map ((D ++ [u]) ++ ·) := by
  cases o with
  | none => rfl
  | some z => simp
set_option maxRecDepth 100000 in
set_option maxHeartbeats 8000000 in
theorem read_any (s : B) (w : World) (hl : s.length ≤ 10000000) : Calls Tryz.prog 235 #[sV s] w fun e w' => ∃ xv, e = .returned xv ∧ RdR w.heap.size s xv w' ∧ Kept w w' := by
  obtain ⟨cp, w1, hcv, hk1, hR1⟩ := to_bytes s w
  have HR := Lib.hid (BOld.of hR1)
  have K1 := Lib.hid hk1
  have hs1 := hk1.size
  clear hk1 hR1
  go_enter Tryz.func235, Tryz.ntmps235
  go_wp2_with fail
  clear hcv
  go_loopw [4, 5, 6, 13] (fun vm vn vk vi wr => ∃ (i n k : Nat) (D : B), i ≤ s.length ∧ vi = .int .i64 i ∧ vn = .int .i64 n ∧ vk = .int .i64 k ∧ (k = 0 ∨ k = 2 ∨ k = 4 ∨ k = 6) ∧ n < 2 ^ k ∧ D.length ≤ i ∧ Hid ((rd n k (s.drop i)).map (D ++ ·) = rd 0 0 s) ∧ Hid (Kept w wr) ∧ Hid (BOld w1.heap.size (.slice (some ⟨w.heap.size, 0, none⟩) s.length cp) s wr) ∧ Hid (w1.heap.size ≤ wr.heap.size) ∧ Hid (OwnB w1.heap.size vm D wr)) (fun _ _ _ vi _ => s.length - (intOf vi).toNat)
  case atStart => exact ⟨0, 0, 0, [], Nat.zero_le _, rfl, rfl, rfl, Or.inl rfl, by decide, Nat.zero_le _, Lib.hid (by simp), K1, HR, Lib.hid (Nat.le_refl _), Lib.hid (OwnB.nil _ _)⟩
  case round =>
    obtain ⟨i, n, k, D, hi, rfl, rfl, rfl, hk, hn, hDi, hD, hK, hR, hZ, hO⟩ := hrel
    obtain ⟨ta, tc, htv⟩ := own_slice hO.out
    subst htv
    have hsz := hK.out.size
    have hn64 : n < 64 := by rcases hk with rfl | rfl | rfl | rfl <;> omega
    by_cases hlt : i < s.length
    · have hltI : (i : Int) < s.length := by omega
      obtain ⟨x, hx⟩ : ∃ x, s[i]? = some x := ⟨_, List.getElem?_eq_getElem hlt⟩
      obtain ⟨_, _, _, hv', hcp, cell⟩ := hR.out.1.at hx
      cases hv'
      rw [Nat.zero_add] at cell
      have HS := Lib.hid (rd_step hx n k)
      clear hx
      rcases dg_bd x with hd | hd
      · have HN := Lib.hid (show rd 0 0 s = none by rw [← hD.out, HS.out, if_pos (by omega)]; rfl)
        have HG := Lib.hid (dig_any x wr)
        rw [hd] at HG
        clear hD HS hd
        go_wp2_with fail
        refine HG.out.mono ?_
        rintro e y ⟨rfl, rfl⟩
        clear HG
        go_wp2_with fail
        go_ret2
        refine ⟨_, rfl, ⟨.slice none 0 0, ?_, ?_⟩, hK.out⟩
        · rw [HN.out]; exact OwnB.nil _ _
        · rw [HN.out]; rfl
      · obtain ⟨d, hdd⟩ : ∃ d : Nat, dg x = d := ⟨(dg x).toNat, by omega⟩
        have HG := Lib.hid (dig_any x wr)
        rw [hdd] at HG HS hd
        have hd64 : d < 64 := by omega
        have hdn : ¬ (d : Int) < 0 := by omega
        have HS2 := Lib.hid (HS.out.trans (by rw [if_neg hdn, Int.toNat_natCast]))
        have hw := read_bits n d hn64 hd64
        have hm := m_lt n d hn64 hd64
        have HS1 := Lib.hid HS2.out
        clear HS HS2
        clear hd hdd
        rcases hk with rfl | rfl | rfl | rfl
        · obtain rfl : n = 0 := by simpa using hn
          have hw : bits BinOp.or IntKind.i64 0 (d : Int) = (d : Int) := by have := read_bits 0 d (by decide) hd64; simpa using this
          have HR2 := Lib.hid (hD.out.symm.trans (by rw [HS1.out, if_pos rfl]))
          clear hD HS1 hm
          go_wp2_with fail
          refine HG.out.mono ?_
          rintro e y ⟨rfl, rfl⟩
          clear HG
          go_wp2_with fail
          go_roundw
          case rel => exact ⟨i + 1, d, 6, D, by omega, by go_num, rfl, rfl, Or.inr (Or.inr (Or.inr rfl)), hd64, by omega, Lib.hid HR2.out.symm, hK, hR, hZ, hO⟩
          case measure => simp [intOf]; omega
        all_goals generalize 64 * n + d = m at *
        · have HR2 := Lib.hid (hD.out.symm.trans (by rw [HS1.out, if_neg (by decide), map_app]))
          have hn2 : 0 < 2 ^ 0 := by omega
          have a1 : bits BinOp.and IntKind.i64 (m : Int) 0 = 0 := and_0 _ (by omega) (by omega)
          have hm1 : m % 1 = 0 := by omega
          have a2 := @UInt8.toNat_ofNat' (m / 1)
          have a3 : (m : Int) % 256 = ((UInt8.ofNat (m / 1)).toNat : Int) := by rw [a2]; omega
          simp only [Nat.reduceSub, Nat.reducePow] at HR2
          rw [hm1] at HR2
          clear hD HS1 a2
          generalize UInt8.ofNat (m / 1) = u at *
          go_wp2_with fail
          refine HG.out.mono ?_
          rintro e y ⟨rfl, rfl⟩
          clear HG
          have ky : Kept y (y.alloc (.cells #[.int .u8 u.toNat] 5)) := (Kept.refl y).alloc _
          have OY := Lib.hid (hO.out.kept ky)
          have KY := Lib.hid (hK.out.trans ky)
          have RY := Lib.hid (hR.out.kept ky)
          have hcy : (y.alloc (.cells #[.int .u8 u.toNat] 5)).cell? ⟨y.heap.size, 0, none⟩ = some (.int .u8 u.toNat) := (Kept.refl _).new 0 rfl
          have hszy := KY.out.size
          have ZY := Lib.hid (Nat.le_trans hZ.out ky.size)
          clear hO hK hR ky
          go_wp2_with (at_builtin; refine wpList_byteB rfl _ _ rfl w1.heap.size (.slice ta D.length tc) D u y.heap.size rfl OY.out rfl hcy (by omega) ZY.out ?_)
          intro v' z hz hgz
          have KZ := Lib.hid (kept_row KY.out hgz (fun g hg => Nat.le_trans hs1 (World.ownsRow.lt OY.out g hg).1))
          have RZ := Lib.hid (RY.out.grow hgz (fun g hg => (World.ownsRow.lt OY.out g hg).1))
          have ZZ := Lib.hid (Nat.le_trans ZY.out hgz.size)
          have OZ := Lib.hid hz
          clear hz hgz OY KY RY hcy
          go_wp2_with fail
          go_roundw
          case rel => exact ⟨i + 1, 0, 0, D ++ [u], by omega, by go_num, by go_num, rfl, by decide, hn2, by simp; omega, Lib.hid HR2.out.symm, KZ, RZ, ZZ, OZ⟩
          case measure => simp [intOf]; omega
        · have HR2 := Lib.hid (hD.out.symm.trans (by rw [HS1.out, if_neg (by decide), map_app]))
          have hn2 : m % 4 < 2 ^ 2 := by omega
          have a1 : bits BinOp.and IntKind.i64 (m : Int) 3 = ((m % 4 : Nat) : Int) := by rw [and_3 _ (by omega) (by omega)]; omega
          have a2 := @UInt8.toNat_ofNat' (m / 4)
          have a3 : (m : Int) / 4 % 256 = ((UInt8.ofNat (m / 4)).toNat : Int) := by rw [a2]; omega
          simp only [Nat.reduceSub, Nat.reducePow] at HR2
          clear hD HS1 a2
          generalize UInt8.ofNat (m / 4) = u at *
          go_wp2_with fail
          refine HG.out.mono ?_
          rintro e y ⟨rfl, rfl⟩
          clear HG
          have ky : Kept y (y.alloc (.cells #[.int .u8 u.toNat] 5)) := (Kept.refl y).alloc _
          have OY := Lib.hid (hO.out.kept ky)
          have KY := Lib.hid (hK.out.trans ky)
          have RY := Lib.hid (hR.out.kept ky)
          have hcy : (y.alloc (.cells #[.int .u8 u.toNat] 5)).cell? ⟨y.heap.size, 0, none⟩ = some (.int .u8 u.toNat) := (Kept.refl _).new 0 rfl
          have hszy := KY.out.size
          have ZY := Lib.hid (Nat.le_trans hZ.out ky.size)
          clear hO hK hR ky
          go_wp2_with (at_builtin; refine wpList_byteB rfl _ _ rfl w1.heap.size (.slice ta D.length tc) D u y.heap.size rfl OY.out rfl hcy (by omega) ZY.out ?_)
          intro v' z hz hgz
          have KZ := Lib.hid (kept_row KY.out hgz (fun g hg => Nat.le_trans hs1 (World.ownsRow.lt OY.out g hg).1))
          have RZ := Lib.hid (RY.out.grow hgz (fun g hg => (World.ownsRow.lt OY.out g hg).1))
          have ZZ := Lib.hid (Nat.le_trans ZY.out hgz.size)
          have OZ := Lib.hid hz
          clear hz hgz OY KY RY hcy
          go_wp2_with fail
          go_roundw
          case rel => exact ⟨i + 1, m % 4, 2, D ++ [u], by omega, by go_num, by go_num, rfl, by decide, hn2, by simp; omega, Lib.hid HR2.out.symm, KZ, RZ, ZZ, OZ⟩
          case measure => simp [intOf]; omega
        · have HR2 := Lib.hid (hD.out.symm.trans (by rw [HS1.out, if_neg (by decide), map_app]))
          have hn2 : m % 16 < 2 ^ 4 := by omega
          have a1 : bits BinOp.and IntKind.i64 (m : Int) 15 = ((m % 16 : Nat) : Int) := by rw [and_15 _ (by omega) (by omega)]; omega
          have a2 := @UInt8.toNat_ofNat' (m / 16)
          have a3 : (m : Int) / 16 = ((UInt8.ofNat (m / 16)).toNat : Int) := by rw [a2]; omega
          simp only [Nat.reduceSub, Nat.reducePow] at HR2
          clear hD HS1 a2
          generalize UInt8.ofNat (m / 16) = u at *
          go_wp2_with fail
          refine HG.out.mono ?_
          rintro e y ⟨rfl, rfl⟩
          clear HG
          have ky : Kept y (y.alloc (.cells #[.int .u8 u.toNat] 5)) := (Kept.refl y).alloc _
          have OY := Lib.hid (hO.out.kept ky)
          have KY := Lib.hid (hK.out.trans ky)
          have RY := Lib.hid (hR.out.kept ky)
          have hcy : (y.alloc (.cells #[.int .u8 u.toNat] 5)).cell? ⟨y.heap.size, 0, none⟩ = some (.int .u8 u.toNat) := (Kept.refl _).new 0 rfl
          have hszy := KY.out.size
          have ZY := Lib.hid (Nat.le_trans hZ.out ky.size)
          clear hO hK hR ky
          go_wp2_with (at_builtin; refine wpList_byteB rfl _ _ rfl w1.heap.size (.slice ta D.length tc) D u y.heap.size rfl OY.out rfl hcy (by omega) ZY.out ?_)
          intro v' z hz hgz
          have KZ := Lib.hid (kept_row KY.out hgz (fun g hg => Nat.le_trans hs1 (World.ownsRow.lt OY.out g hg).1))
          have RZ := Lib.hid (RY.out.grow hgz (fun g hg => (World.ownsRow.lt OY.out g hg).1))
          have ZZ := Lib.hid (Nat.le_trans ZY.out hgz.size)
          have OZ := Lib.hid hz
          clear hz hgz OY KY RY hcy
          go_wp2_with fail
          go_roundw
          case rel => exact ⟨i + 1, m % 16, 4, D ++ [u], by omega, by go_num, by go_num, rfl, by decide, hn2, by simp; omega, Lib.hid HR2.out.symm, KZ, RZ, ZZ, OZ⟩
          case measure => simp [intOf]; omega
    · have hltI : ¬ (i : Int) < s.length := by omega
      have HF := Lib.hid (show rd 0 0 s = some D by rw [← hD.out, rd_end (by omega)]; simp)
      clear hD
      go_wp2
      go_ret2
      refine ⟨_, rfl, ⟨.slice ta D.length tc, ?_, ?_⟩, hK.out⟩
      · rw [HF.out]; exact own_mono hO.out hs1
      · rw [HF.out]; rfl
theorem trim_any (s : B) (w : World) (hs : s.length ≤ maxLen) : Calls Tryz.prog 236 #[sV s, .string ⟨#[61]⟩] w fun e w' => e = .returned (sV (Lib.trimRightB s 61)) ∧ w' = w := by
  have hsz : (ByteArray.mk s.toArray).size = s.length := List.size_toArray
  refine (Tryz.strings_TrimRight_one ⟨s.toArray⟩ 61 (by decide) w (by unfold maxLen at hs; omega)).mono ?_
  rintro e y ⟨rfl, rfl⟩
  exact ⟨by simp, rfl⟩
noncomputable def bE (s : B) : Int := if (byt s).isSome = true then 0 else 2
theorem bE_some {s x : B} (h : byt s = some x) : bE s = 0 := by unfold bE; rw [h]; rfl
theorem bE_none {s : B} (h : byt s = none) : bE s = 2 := by unfold bE; rw [h]; rfl
def BytR (B0 : Nat) (s : B) (v : Value) (w : World) : Prop := ∃ xv, OwnB B0 xv ((byt s).getD []) w ∧ v = .tuple #[xv, .int .i64 (bE s)]
theorem BytR.none {B0 : Nat} {s : B} (h : byt s = none) (w : World) : BytR B0 s (.tuple #[.slice none 0 0, .int .i64 2]) w := ⟨_, by rw [h]; exact OwnB.nil _ _, by rw [bE_none h]⟩
theorem BytR.some {B0 : Nat} {s x : B} {v : Value} {w : World} (h : byt s = some x) (hO : OwnB B0 v x w) : BytR B0 s (.tuple #[v, .int .i64 0]) w := ⟨_, by rw [h]; exact hO, by rw [bE_some h]⟩
set_option maxRecDepth 100000 in
set_option maxHeartbeats 4000000 in
theorem bytes_any (s : B) (w : World) (hl : s.length ≤ 1000000) : Calls Tryz.prog 192 #[sV s] w fun e w' => ∃ xv, e = .returned xv ∧ BytR w.heap.size s xv w' ∧ Kept w w' := by
  have HT := Lib.hid (trim_any s w (by unfold maxLen; omega))
  have HR := Lib.hid (read_any (Lib.trimRightB s 61) w (Nat.le_trans (trim_le s) (by omega)))
  have HN := Lib.hid (fun (h : rd 0 0 (Lib.trimRightB s 61) = none) => byt_cnd h)
  have HY := Lib.hid (fun (x : B) (h : rd 0 0 (Lib.trimRightB s 61) = some x) (hx : raw x ≠ s) => byt_not h hx)
  have HL := Lib.hid (fun (x : B) (h : rd 0 0 (Lib.trimRightB s 61) = some x) => cnd_len h)
  generalize Lib.trimRightB s 61 = t at *
  go_enter Tryz.func192, Tryz.ntmps192
  go_wp2_with fail
  refine HT.out.mono ?_
  rintro e y ⟨rfl, rfl⟩
  clear HT
  go_wp2_with fail
  refine HR.out.mono ?_
  rintro e x ⟨xv, rfl, ⟨av, hO, rfl⟩, k⟩
  have K := Lib.hid k
  clear HR k
  cases h : rd 0 0 t with
  | none =>
    have HB := Lib.hid (HN.out h)
    obtain ⟨ta, tc, htv⟩ := own_slice hO
    subst htv
    clear HN HY HL hO h
    simp only [Option.isSome_none]
    go_wp2
    go_ret2
    exact ⟨_, rfl, BytR.none HB.out _, K.out⟩
  | some z =>
    have HY2 := Lib.hid (HY.out z h)
    have hzl := HL.out z h
    rw [h] at hO
    have hO : OwnB y.heap.size av z x := hO
    have HO := Lib.hid hO
    have HR := Lib.hid hO.rd
    obtain ⟨ta, tc, htv⟩ := own_slice hO
    subst htv
    clear HN HY HL hO h
    simp only [Option.isSome_some]
    go_wp2_with fail
    refine (raw_any _ z x HR.out (by omega)).mono ?_
    rintro e x2 ⟨rfl, k2⟩
    have K2 := Lib.hid (K.out.trans k2)
    have O2 := Lib.hid (HO.out.kept k2)
    clear k2 HO HR K
    by_cases hz : raw z = s
    · have HB := Lib.hid (byt_some hz)
      rw [hz]
      go_wp2
      go_ret2
      exact ⟨_, rfl, BytR.some HB.out O2.out, K2.out⟩
    · have HB := Lib.hid (HY2.out hz)
      have hq : (raw z == s) = false := beq_eq_false_iff_ne.2 hz
      clear HY2 hz
      generalize raw z = q at *
      go_wp2
      go_ret2
      exact ⟨_, rfl, BytR.none HB.out _, K2.out⟩
def Env (w : World) : Prop := ∃ m, w.cell? ⟨0, 0, none⟩ = some (.int .i64 m)
theorem Env.kept {w w' : World} (h : Env w) (k : Kept w w') : Env w' := by
  obtain ⟨m, hm⟩ := h
  exact ⟨m, k.yes hm⟩
set_option maxRecDepth 100000 in
theorem equal_any (v u : Value) (a b : B) (w : World) (hv : BRd v a w) (hu : BRd u b w) : Calls Tryz.prog 50 #[v, u] w fun e w' => e = .returned (.bool (a == b)) ∧ w' = w := by
  have c1 := hv.conv
  have c2 := hu.conv
  obtain ⟨xa, xc, rfl⟩ := hv.slice
  obtain ⟨ya, yc, rfl⟩ := hu.slice
  clear hv hu
  go_enter Tryz.func50, Tryz.ntmps50
  go_wp2
  go_ret
  exact ⟨rfl, rfl⟩
end Go.Proofs.YtjlpkgipdkjfhaaGreatDoor.Bk
