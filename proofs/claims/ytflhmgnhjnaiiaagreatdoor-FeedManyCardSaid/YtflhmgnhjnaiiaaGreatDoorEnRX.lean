/- Several texts of this seat, one behind the other. -/
import Derived.Test.YtflhmgnhjnaiiaaGreatDoorKept
import Derived.Test.YtflhmgnhjnaiiaaGreatDoorEnPure
import Derived.Lib.AppendStr
import Derived.Lib.BufferRead
import Derived.Great.BuildSlice
import Derived.Maps.AppendAt
import Derived.Deep.Cut
import Derived.Lib.OthersKept
set_option linter.unusedSimpArgs false
/- Bytes that grow in a call; bytes that are made a text. -/
set_option linter.unusedVariables false
namespace Go.Proofs.YtflhmgnhjnaiiaaGreatDoor
open Go.ChangeShapes Go.WideShapes Go.ChangeAt Go.RowKit
open En
theorem info8 : (Tryz.prog.info? 5).map (fun i => (i.zero, i.size, i.bytes)) = some (some (.int .u8 0), 1, 1) := by kernel_rfl
theorem byte_at (l : List UInt8) (k : Nat) (a : UInt8) (h : l[k]? = some a) (hk : k < (ByteArray.mk l.toArray).size) : (ByteArray.mk l.toArray)[k]'hk = a := by
  obtain ⟨h1, h2⟩ := List.getElem?_eq_some_iff.1 h
  rw [← h2]; rfl
theorem eb_ret {a b : Bool} (h : a = b) : Ending.returned (.bool a) = .returned (.bool b) := by rw [h]
theorem u8_eq {a b : UInt8} (h : (a.toNat : Int) = (b.toNat : Int)) : a = b := UInt8.toNat_inj.1 (by omega)
theorem u8_ne {a b : UInt8} (h : ¬ (a.toNat : Int) = (b.toNat : Int)) : ¬ a = b := fun e => h (by rw [e])
/-- the cells of bytes -/
abbrev bc (l : List UInt8) : List Value := l.map fun b => Value.int .u8 (b.toNat : Int)
/-- bytes, in a slice that has grown since a world -/
def OutB (B : Nat) (v : Value) (l : List UInt8) (x : World) : Prop := x.ownsRow B 5 1 v l.length (bc l)
theorem OutB.nil (B : Nat) (x : World) : OutB B (.slice none 0 0) [] x := World.ownsRow_nil _ _ _ _
theorem OutB.kept {B : Nat} {v : Value} {l : List UInt8} {x x' : World} (h : OutB B v l x) (k : Kept x x') : OutB B v l x' :=
  World.ownsRow.kept h (k.grownBy none) (by cases hv : v.ownBlock <;> simp)
theorem OutB.slice {B : Nat} {v : Value} {l : List UInt8} {x : World} (h : OutB B v l x) : ∃ ao cap, v = .slice ao l.length cap := by
  rcases h.2 with ⟨h1, h2⟩ | ⟨g, cap, _, h1, _⟩
  · exact ⟨none, 0, by rw [h1, h2]⟩
  · exact ⟨_, _, h1⟩
def OutBIn (B : Nat) (X : World) (l : List UInt8) (v : Value) (x : World) : Prop := ∃ ao cap, v = .slice ao l.length cap ∧ OutB B v l x ∧ Kept X x
theorem kept_grown {B : Nat} {X y w7 : World} {l : List UInt8} {v : Value} (hB : X.heap.size ≤ B) (hl : OutB B v l y) (hk : Kept X y) (hg : y.grownBy w7 v.ownBlock) : Kept X w7 :=
  ⟨hg.os.trans hk.os, hg.output.trans hk.output, Nat.le_trans hk.size hg.size, fun j hj => by
    have q1 := hk.size
    have q3 := hl.lt
    rw [hg.block j (by omega) (fun e => by have := q3 j (e.symm); omega), hk.block j hj], hg.tape.trans hk.tape⟩
theorem outB_in {B : Nat} {X w7 : World} {l u : List UInt8} {v' : Value} (kk : Kept X w7) (hown' : w7.ownsRow B 5 1 v' (l.length + u.length) (bc l ++ bc u)) : OutBIn B X (l ++ u) v' w7 := by
  have h : OutB B v' (l ++ u) w7 := by unfold OutB bc; rw [List.map_append, List.length_append]; exact hown'
  obtain ⟨ao, cap, hv⟩ := h.slice
  exact ⟨ao, cap, hv, h, kk⟩
/-- a byte more -/
theorem outB_one {B : Nat} {X y w7 : World} {l : List UInt8} {b : UInt8} {v v' : Value} (hB : X.heap.size ≤ B) (hl : OutB B v l y) (hk : Kept X y) {o : Obj} (hg : (y.alloc o).grownBy w7 v.ownBlock)
    (hown' : w7.ownsRow B 5 1 v' (l.length + 1) (bc l ++ [.int .u8 (b.toNat : Int)])) : OutBIn B X (l ++ [b]) v' w7 :=
  outB_in (kept_grown hB (hl.kept ((Kept.refl y).alloc o)) (hk.alloc o) hg) hown'
/-- a text's bytes more -/
theorem outB_str {B : Nat} {X y w7 : World} {l u : List UInt8} {v v' : Value} (hB : X.heap.size ≤ B) (hl : OutB B v l y) (hk : Kept X y) (hg : y.grownBy w7 v.ownBlock)
    (hown' : w7.ownsRow B 5 1 v' (l.length + (ByteArray.mk u.toArray).size) (bc l ++ Lib.strCells ⟨u.toArray⟩)) : OutBIn B X (l ++ u) v' w7 :=
  outB_in (kept_grown hB hl hk hg) (by
    have e : Lib.strCells ⟨u.toArray⟩ = bc u := by simp [Lib.strCells, bc]
    have e2 : (ByteArray.mk u.toArray).size = u.length := List.size_toArray
    rw [e, e2] at hown'; exact hown')
theorem conv_out {B : Nat} {v : Value} {l : List UInt8} {x : World} (h : OutB B v l x) : (convert 30 9 v).run Tryz.prog x = .ok (.string ⟨l.toArray⟩) x := by
  rcases h.2 with ⟨h1, h2⟩ | ⟨g, cap, cur, h1, h2⟩
  · obtain rfl : l = [] := List.length_eq_zero_iff.1 h2
    subst h1
    exact Lib.run_convert_nil_bytes x _ _ 5 0 Tryz.underlying30 Tryz.underlying5 Tryz.underlying9
  · subst h1
    refine run_convert_bytes_back x _ _ 5 ⟨g, 0, none⟩ cap l Tryz.underlying30 Tryz.underlying5 Tryz.underlying9 (fun j hj => ?_)
    exact World.ownsRow.cells h (g := g) rfl j _ (by simp [bc, List.getElem?_eq_getElem hj])
end Go.Proofs.YtflhmgnhjnaiiaaGreatDoor
/- The document's own answers of layer ent: blanks; a text encoded. -/
set_option linter.unusedVariables false
namespace Go.Proofs.YtflhmgnhjnaiiaaGreatDoor
open Go.ChangeShapes Go.WideShapes Go.ChangeAt Go.RowKit
open En
theorem rspace_any (c : UInt8) (w : World) : Calls Tryz.prog 16 #[.int .u8 c.toNat] w fun e w' => e = .returned (.bool (spB c)) ∧ w = w' := by
  go_enter Tryz.func16, Tryz.ntmps16
  have h9 : ((c.toNat : Int) == 9) = (c.toNat == 9) := by rw [Bool.eq_iff_iff]; simp; omega
  have h10 : ((c.toNat : Int) == 10) = (c.toNat == 10) := by rw [Bool.eq_iff_iff]; simp; omega
  have h13 : ((c.toNat : Int) == 13) = (c.toNat == 13) := by rw [Bool.eq_iff_iff]; simp; omega
  have h32 : ((c.toNat : Int) == 32) = (c.toNat == 32) := by rw [Bool.eq_iff_iff]; simp; omega
  have HS := Lib.hid (show spB c = (((c.toNat : Int) == 9) || ((c.toNat : Int) == 10) || ((c.toNat : Int) == 13) || ((c.toNat : Int) == 32)) by rw [h9, h10, h13, h32]; rfl)
  clear h9 h10 h13 h32
  go_wp2
  all_goals
    go_ret
    exact ⟨eb_ret (by rw [HS.out]; try simp [*]), rfl⟩
theorem enc_take (l : List UInt8) (k : Nat) (a : UInt8) (h : l[k]? = some a) : enc (l.take (k + 1)) = enc (l.take k) ++ encC a := by
  rw [List.take_add_one, h]; simp [enc]
end Go.Proofs.YtflhmgnhjnaiiaaGreatDoor
/- The document's own answers of layer ent: the words of a text. -/
set_option linter.unusedVariables false
namespace Go.Proofs.YtflhmgnhjnaiiaaGreatDoor
open Go.ChangeShapes Go.WideShapes Go.ChangeAt Go.RowKit
open En
theorem drop_atq {l : List UInt8} {k : Nat} {a : UInt8} (h : l[k]? = some a) : l.drop k = a :: l.drop (k + 1) := by
  obtain ⟨hk, rfl⟩ := List.getElem?_eq_some_iff.1 h
  exact List.drop_eq_getElem_cons hk
theorem ne_emp (d : List UInt8) (a : UInt8) : (d ++ [a]).isEmpty = false := by cases d <;> rfl
set_option maxRecDepth 100000 in
set_option maxHeartbeats 4000000 in
theorem rtrim_any (l : List UInt8) (w : World) (hl : l.length ≤ 1000000) : Calls Tryz.prog 12 #[.string ⟨l.toArray⟩] w fun e w' => e = .returned (.string ⟨(tr l).toArray⟩) ∧ Kept w w' := by
  obtain ⟨i0, hi, hz0, hz1, hz2⟩ := info_parts info8
  go_enter Tryz.func12, Tryz.ntmps12
  go_wp2_with fail
  go_loopw [3, 4, 5, 6] (fun a g i _ y => ∃ (k : Nat) (done : List UInt8) (gp : Bool), k ≤ l.length ∧ i = .int .i64 k ∧ g = .bool gp ∧ done.length ≤ 2 * k ∧ tr l = done ++ trF (!done.isEmpty) gp (l.drop k) ∧ OutBIn w.heap.size w done a y) (fun _ _ i _ _ => l.length - (intOf i).toNat)
  case atStart => exact ⟨0, [], false, Nat.zero_le _, rfl, rfl, Nat.le_refl _, rfl, none, 0, rfl, OutB.nil _ _, Kept.refl _⟩
  case round =>
    obtain ⟨k, done, gp, hk, rfl, rfl, hd, ht, ao, cap, rfl, ho, hkp⟩ := hrel
    have HO := Lib.hid ho; have HK := Lib.hid hkp; have HT := Lib.hid ht
    clear ho hkp ht
    by_cases hlt : k < l.length
    · obtain ⟨a, ha⟩ : ∃ a, l[k]? = some a := ⟨_, List.getElem?_eq_getElem hlt⟩
      have HD := Lib.hid (drop_atq ha)
      have hat := byte_at l k a ha
      clear ha
      cases hsp : spB a with
      | true =>
        have HE := Lib.hid (show tr l = done ++ trF (!done.isEmpty) (!done.isEmpty) (l.drop (k + 1)) by rw [HT.out, HD.out, trF_sp hsp])
        go_wp2_with fail
        refine (rspace_any a _).mono ?_
        rintro e x2 ⟨rfl, rfl⟩
        rw [hsp]
        clear HT HD hsp hat
        go_wp2
        go_roundw
        case rel => exact ⟨k + 1, done, !done.isEmpty, hlt, by go_num, by cases done with | nil => rfl | cons => simp, by omega, HE.out, ao, cap, rfl, HO.out, HK.out⟩
        case measure => simp [intOf]; omega
      | false =>
        cases gp with
        | true =>
          have HE := Lib.hid (show tr l = (done ++ [32] ++ [a]) ++ trF (!(done ++ [32] ++ [a]).isEmpty) false (l.drop (k + 1)) by rw [HT.out, HD.out, trF_no hsp, if_pos rfl, ne_emp (done ++ [32]) a]; simp)
          go_wp2_with fail
          refine (rspace_any a _).mono ?_
          rintro e x2 ⟨rfl, rfl⟩
          rw [hsp]
          clear HT HD hsp
          go_upto_region 12 with (at_builtin; refine wpList_append_own _ rfl _ _ 30 rfl w.heap.size 5 i0 (.int .u8 0) 1 1 Tryz.underlying30 hi hz0 hz1 hz2 rfl (by decide) _ _ _ rfl (World.ownsRow.alloc HO.out _) ⟨wr.heap.size, 0, none⟩ 1 1 [.int .u8 (32)] rfl rfl (cell_one_new _ _ _) (fun x hx => by simp at hx; subst hx; rfl) (by unfold maxLen; omega) (by omega) (by have := HK.out.size; simp; omega) ?_; intro v' w7 hown' hgrow hnil)
          have HA := outB_one (b := 32) (Nat.le_refl _) HO.out HK.out hgrow hown'
          obtain ⟨ao2, cap2, rfl, ho2, hk2⟩ := HA
          have HO2 := Lib.hid ho2; have HK2 := Lib.hid hk2
          have hl2 : (done ++ [32]).length = done.length + 1 := by simp
          clear ho2 hk2 hgrow hown' hnil HO HK
          generalize done ++ [32] = done2 at *
          go_wp2_with (at_builtin; refine wpList_append_own _ rfl _ _ 30 rfl w.heap.size 5 i0 (.int .u8 0) 1 1 Tryz.underlying30 hi hz0 hz1 hz2 rfl (by decide) _ _ _ rfl (World.ownsRow.alloc HO2.out _) ⟨w7.heap.size, 0, none⟩ 1 1 [.int .u8 ((a.toNat : Int))] rfl rfl (cell_one_new _ _ _) (fun x hx => by simp at hx; subst hx; rfl) (by unfold maxLen; omega) (by omega) (by have := HK2.out.size; simp; omega) ?_; intro v' w8 hown' hgrow hnil)
          have HA := outB_one (Nat.le_refl _) HO2.out HK2.out hgrow hown'
          go_roundw
          case rel => exact ⟨k + 1, _, false, hlt, by go_num, rfl, by simp; omega, HE.out, HA⟩
          case measure => simp [intOf]; omega
        | false =>
          have HE := Lib.hid (show tr l = (done ++ [a]) ++ trF (!(done ++ [a]).isEmpty) false (l.drop (k + 1)) by rw [HT.out, HD.out, trF_no hsp, if_neg (by decide), ne_emp done a]; simp)
          go_wp2_with fail
          refine (rspace_any a _).mono ?_
          rintro e x2 ⟨rfl, rfl⟩
          rw [hsp]
          clear HT HD hsp
          go_wp2_with (at_builtin; refine wpList_append_own _ rfl _ _ 30 rfl w.heap.size 5 i0 (.int .u8 0) 1 1 Tryz.underlying30 hi hz0 hz1 hz2 rfl (by decide) _ _ _ rfl (World.ownsRow.alloc HO.out _) ⟨wr.heap.size, 0, none⟩ 1 1 [.int .u8 (a.toNat : Int)] rfl rfl (cell_one_new _ _ _) (fun x hx => by simp at hx; subst hx; rfl) (by unfold maxLen; omega) (by omega) (by have := HK.out.size; simp; omega) ?_; intro v' w7 hown' hgrow hnil)
          have HA := outB_one (Nat.le_refl _) HO.out HK.out hgrow hown'
          go_roundw
          case rel => exact ⟨k + 1, _, false, hlt, by go_num, rfl, by simp; omega, HE.out, HA⟩
          case measure => simp [intOf]; omega
    · obtain rfl : k = l.length := by omega
      have HE := Lib.hid (show tr l = done by rw [HT.out, List.drop_eq_nil_of_le (Nat.le_refl _)]; simp [trF])
      have hcv := conv_out HO.out
      go_wp2
      go_ret
      exact ⟨by rw [HE.out]; rfl, HK.out⟩
end Go.Proofs.YtflhmgnhjnaiiaaGreatDoor
/- The document's own answers of layer ent: numbers, and their signs. -/
set_option linter.unusedVariables false
namespace Go.Proofs.YtflhmgnhjnaiiaaGreatDoor
open Go.ChangeShapes Go.WideShapes Go.ChangeAt Go.RowKit
open En
theorem ei_ret {k : IntKind} {a b : Int} (h : a = b) : Ending.returned (.int k a) = .returned (.int k b) := by rw [h]
/-- a number as the document reckons it: none above all that may be -/
def cap (m : Int) : Int := if 1114111 < m then 1114112 else m
def nmV (base : Int) (l : List UInt8) : Int := match num base l with | none => -1 | some m => cap m
theorem cap_bd {m : Int} (h : 0 ≤ m) : 0 ≤ cap m ∧ cap m ≤ 1114112 := by unfold cap; split <;> omega
theorem cap_step {base m d : Int} (hb : base = 10 ∨ base = 16) (h : 0 ≤ m) (hd : 0 ≤ d) : cap (base * cap m + d) = cap (base * m + d) := by
  unfold cap
  rcases hb with rfl | rfl <;> by_cases q : 1114111 < m
  · rw [if_pos q, if_pos (by omega), if_pos (by omega)]
  · rw [if_neg q]
  · rw [if_pos q, if_pos (by omega), if_pos (by omega)]
  · rw [if_neg q]
end Go.Proofs.YtflhmgnhjnaiiaaGreatDoor
/- Package ent's contracts, in plain words, over what is said of a world (a table that lies there, say). -/
set_option linter.unusedVariables false
namespace Go.Proofs.YtflhmgnhjnaiiaaGreatDoor
open Go.ChangeShapes Go.WideShapes Go.ChangeAt Go.RowKit
open En
/-- Decode's text and error -/
def deT (l : List UInt8) : List UInt8 := if (gone l).2 = true then (gone l).1 else []
def deE (l : List UInt8) : Int := if (gone l).2 = true then 0 else 2
theorem deE_bd (l : List UInt8) : 0 ≤ deE l ∧ deE l ≤ 2 := by unfold deE; split <;> omega
theorem deE_ok {l : List UInt8} (h : deE l = 0) : (gone l).2 = true := by
  unfold deE at h; split at h
  · assumption
  · cases h
theorem deT_ok {l : List UInt8} (h : (gone l).2 = true) : deT l = (gone l).1 := by unfold deT; rw [if_pos h]
theorem deE_of {l : List UInt8} (h : (gone l).2 = true) : deE l = 0 := by unfold deE; rw [if_pos h]
/-- a number's sign, or nothing -/
def rnS (n : Int) : List UInt8 := (rn n).getD []
/-- what is said of a world stays -/
def Stays (I : World → Prop) : Prop := ∀ w w', I w → Kept w w' → I w'
def DecodeC (I : World → Prop) : Prop := ∀ (l : List UInt8) (w : World), I w → l.length ≤ 4000 → Calls Tryz.prog 74 #[.string ⟨l.toArray⟩] w fun e w' => e = .returned (.tuple #[.string ⟨(deT l).toArray⟩, .int .i64 (deE l)]) ∧ Kept w w'
def RuneC (I : World → Prop) : Prop := ∀ (n : Int) (w : World), I w → -9223372036854775808 ≤ n → n ≤ 9223372036854775807 → Calls Tryz.prog 95 #[.int .i64 n] w fun e w' => e = .returned (.tuple #[.string ⟨(rnS n).toArray⟩, .bool (okN n)]) ∧ Kept w w'
def TrimC (I : World → Prop) : Prop := ∀ (l : List UInt8) (w : World), I w → l.length ≤ 4000 → Calls Tryz.prog 18 #[.string ⟨l.toArray⟩] w fun e w' => e = .returned (.string ⟨(tr l).toArray⟩) ∧ Kept w w'
def SpaceC (I : World → Prop) : Prop := ∀ (c : UInt8) (w : World), I w → Calls Tryz.prog 40 #[.int .u8 c.toNat] w fun e w' => e = .returned (.bool (spB c)) ∧ Kept w w'
end Go.Proofs.YtflhmgnhjnaiiaaGreatDoor
/- The document's own answers of layer ent: a number's sign. -/
set_option linter.unusedVariables false
namespace Go.Proofs.YtflhmgnhjnaiiaaGreatDoor
open Go.ChangeShapes Go.WideShapes Go.ChangeAt Go.RowKit
open En
theorem by8_nat {n : Int} (h0 : 0 ≤ n) (h1 : n < 256) : ((by8 n).toNat : Int) = n := by
  unfold by8
  rw [UInt8.toNat_ofNat']
  omega
theorem conv_lit (W : World) (l : List UInt8) : (convert 30 9 (.slice (some ⟨W.heap.size, 0, none⟩) l.length l.length)).run Tryz.prog (W.alloc (.cells (bc l).toArray 5)) = .ok (.string ⟨l.toArray⟩) (W.alloc (.cells (bc l).toArray 5)) := by
  refine run_convert_bytes_back _ _ _ 5 ⟨W.heap.size, 0, none⟩ l.length l Tryz.underlying30 Tryz.underlying5 Tryz.underlying9 (fun j hj => ?_)
  have ha : ((⟨W.heap.size, 0, none⟩ : Addr).add j) = ⟨W.heap.size, j, none⟩ := by simp [Addr.add]; omega
  rw [ha, World.cell?_alloc_mark]
  simp [bc, hj]
end Go.Proofs.YtflhmgnhjnaiiaaGreatDoor
/- The document's own answers of layer ent: entities, and a text gone through. -/
set_option linter.unusedVariables false
namespace Go.Proofs.YtflhmgnhjnaiiaaGreatDoor
open Go.ChangeShapes Go.WideShapes Go.ChangeAt Go.RowKit
open En
theorem ext_mk (l : List UInt8) (a b : Nat) : (ByteArray.mk l.toArray).extract a b = ⟨((l.drop a).take (b - a)).toArray⟩ := by
  apply ByteArray.ext
  rw [ByteArray.data_extract]
  simp
theorem rn_nm {base : Int} {l : List UInt8} : rnS (nmV base l) = ((num base l).bind rn).getD [] ∧ okN (nmV base l) = ((num base l).bind rn).isSome := by
  unfold nmV rnS
  cases h : num base l with
  | none => exact ⟨rfl, rfl⟩
  | some m =>
    simp only [Option.bind_some]
    unfold cap
    by_cases q : 1114111 < m
    · rw [if_pos q]
      have e : okN m = false := by unfold okN; simp; omega
      unfold rn
      rw [e]
      exact ⟨rfl, rfl⟩
    · rw [if_neg q]
      refine ⟨rfl, ?_⟩
      unfold rn
      cases okN m <;> rfl
def sgS (b : List UInt8) : List UInt8 := (sg b).getD []
theorem sg_short {b : List UInt8} (h : b.length < 2) : sg b = none := by
  unfold sg
  rw [if_neg (fun e => by rw [e] at h; simp at h), if_neg (fun e => by rw [e] at h; simp at h), if_neg (fun e => by rw [e] at h; simp at h), if_neg (fun e => by rw [e] at h; simp at h), if_neg (fun e => by rw [e] at h; simp at h)]
  match b, h with
  | [], _ => rfl
  | [c], _ =>
    split
    · rename_i h1; simp at h1
    · rename_i h1
      simp only [List.cons.injEq] at h1
      obtain ⟨_, rfl⟩ := h1
      rfl
    · rfl
def sgN (b : List UInt8) : Option (List UInt8) :=
  match b with
  | 35 :: 120 :: r => (num 16 r).bind rn
  | 35 :: r => (num 10 r).bind rn
  | _ => none
theorem sg_else {b : List UInt8} (e1 : ¬ b = [97, 109, 112]) (e2 : ¬ b = [108, 116]) (e3 : ¬ b = [103, 116]) (e4 : ¬ b = [113, 117, 111, 116]) (e5 : ¬ b = [97, 112, 111, 115]) :
    sg b = sgN b := by
  unfold sg
  rw [if_neg e1, if_neg e2, if_neg e3, if_neg e4, if_neg e5]
  rfl
theorem sgN_neg {c0 c1 : UInt8} {r : List UInt8} (h : ¬ c0 = 35) : sgN (c0 :: c1 :: r) = none := by
  unfold sgN
  split
  · rename_i q; simp only [List.cons.injEq] at q; exact absurd q.1 h
  · rename_i q; simp only [List.cons.injEq] at q; exact absurd q.1 h
  · rfl
theorem sgN_ten {c1 : UInt8} {r : List UInt8} (h : ¬ c1 = 120) : sgN (35 :: c1 :: r) = (num 10 (c1 :: r)).bind rn := by
  unfold sgN
  split
  · rename_i q; simp only [List.cons.injEq] at q; exact absurd q.2.1 h
  · rename_i q; simp only [List.cons.injEq, true_and] at q; rw [q]
  · rename_i q; exact absurd rfl (q _)
end Go.Proofs.YtflhmgnhjnaiiaaGreatDoor
/- The document's own answers of layer ent: the body of an entity; a text gone through; Decode, Loose. -/
set_option linter.unusedVariables false
namespace Go.Proofs.YtflhmgnhjnaiiaaGreatDoor
open Go.ChangeShapes Go.WideShapes Go.ChangeAt Go.RowKit
open En
/-- an entity's body, from a place on -/
def bdO (l : List UInt8) (at0 : Nat) : Option (List UInt8) := bdF 11 [] (l.drop (at0 + 1))
theorem bdF_nil (n : Nat) (acc : List UInt8) : bdF n acc [] = none := by cases n <;> rfl
theorem sb_ret {a a' : List UInt8} {b b' : Bool} (ha : a = a') (hb : b = b') : Ending.returned (.tuple #[.string ⟨a.toArray⟩, .bool b]) = .returned (.tuple #[.string ⟨a'.toArray⟩, .bool b']) := by rw [ha, hb]
theorem slice_txt (l : List UInt8) (a b : Nat) (x y : Int) (hx : x = a) (hy : y = b) (h1 : a ≤ b) (h2 : b ≤ l.length) (W : World) :
    (Instr.slice 9 (.string ⟨l.toArray⟩) (some (.int .i64 x)) (some (.int .i64 y)) none).run Tryz.prog W = .ok (.string ⟨((l.drop a).take (b - a)).toArray⟩) W := by
  subst hx hy
  rw [run_slice_string W 9 _ .i64 .i64 _ _ Tryz.underlying9 (by omega) (by omega) (by show (b : Int) ≤ l.length; omega)]
  rw [show (a : Int).toNat = a by omega, show (b : Int).toNat = b by omega, ext_mk]
end Go.Proofs.YtflhmgnhjnaiiaaGreatDoor
/- The document's own answers of layer ent: a text gone through; Decode, Loose. -/
set_option linter.unusedVariables false
namespace Go.Proofs.YtflhmgnhjnaiiaaGreatDoor
open Go.ChangeShapes Go.WideShapes Go.ChangeAt Go.RowKit
open En
theorem en_bd (l : List UInt8) (k : Nat) : en (l.drop (k + 1)) = (bdO l k).bind fun b => (sg b).map fun x => (x, b.length + 1) := rfl
theorem bdO_le {l b : List UInt8} {k : Nat} (hk : k < l.length) (h : bdO l k = some b) : k + b.length + 2 ≤ l.length := by
  have := (bdF_len _ _ _ _ h).1
  rw [List.length_drop] at this
  simp at this; omega
/-- one step on -/
theorem gone_amp {l b x : List UInt8} {k : Nat} (h : l[k]? = some 38) (hb : bdO l k = some b) (hs : sg b = some x) :
    gone (l.drop k) = (x ++ (gone (l.drop (k + b.length + 2))).1, (gone (l.drop (k + b.length + 2))).2) := by
  rw [drop_atq h, gone_cons, if_pos rfl, en_bd, hb]
  simp only [Option.bind_some, hs, Option.map_some]
  rw [List.drop_drop, show k + 1 + (b.length + 1) = k + b.length + 2 by omega]
theorem gone_bad {l : List UInt8} {k : Nat} (h : l[k]? = some 38) (hb : en (l.drop (k + 1)) = none) :
    gone (l.drop k) = (38 :: (gone (l.drop (k + 1))).1, false) := by
  rw [drop_atq h, gone_cons, if_pos rfl, hb]
theorem gone_other {l : List UInt8} {a : UInt8} {k : Nat} (h : l[k]? = some a) (ha : ¬ a = 38) :
    gone (l.drop k) = (a :: (gone (l.drop (k + 1))).1, (gone (l.drop (k + 1))).2) := by
  rw [drop_atq h, gone_cons, if_neg ha]
theorem sg_nil : sg [] = none := sg_short (by simp)
theorem en_none {l : List UInt8} {k : Nat} (h : (sg ((bdO l k).getD [])).isSome = false ∨ bdO l k = none) : en (l.drop (k + 1)) = none := by
  rw [en_bd]
  cases hb : bdO l k with
  | none => rfl
  | some b =>
    rw [hb] at h
    simp only [Option.getD_some, Option.isSome_eq_false_iff, Option.isNone_iff_eq_none] at h
    rcases h with h | h
    · simp [h]
    · cases h
/-- a text gone through up to a place -/
def GoneAt (l done : List UInt8) (k : Nat) (f : Bool) : Prop := gone l = (done ++ (gone (l.drop k)).1, f && (gone (l.drop k)).2) ∧ done.length ≤ k ∧ k ≤ l.length
theorem GoneAt.init (l : List UInt8) : GoneAt l [] 0 true := ⟨by simp, by simp, Nat.zero_le _⟩
theorem GoneAt.fin {l done : List UInt8} {f : Bool} (h : GoneAt l done l.length f) : gone l = (done, f) := by
  rw [h.1, List.drop_eq_nil_of_le (Nat.le_refl _)]; simp [gone_nil]
theorem GoneAt.amp {l done b x : List UInt8} {k : Nat} {f : Bool} (h : GoneAt l done k f) (ha : l[k]? = some 38) (hb : bdO l k = some b) (hs : sg b = some x) : GoneAt l (done ++ x) (k + b.length + 2) f := by
  have hlt := (List.getElem?_eq_some_iff.1 ha).1
  have h3 := sg_len hs
  refine ⟨?_, by rw [List.length_append]; have := h.2.1; omega, bdO_le hlt hb⟩
  rw [h.1, gone_amp ha hb hs]; simp
theorem GoneAt.bad {l done : List UInt8} {k : Nat} {f : Bool} (h : GoneAt l done k f) (ha : l[k]? = some 38) (hb : en (l.drop (k + 1)) = none) : GoneAt l (done ++ [38]) (k + 1) false := by
  have hlt := (List.getElem?_eq_some_iff.1 ha).1
  refine ⟨?_, by rw [List.length_append]; have := h.2.1; simp; omega, hlt⟩
  rw [h.1, gone_bad ha hb]; simp
theorem GoneAt.other {l done : List UInt8} {a : UInt8} {k : Nat} {f : Bool} (h : GoneAt l done k f) (ha : l[k]? = some a) (hn : ¬ a = 38) : GoneAt l (done ++ [a]) (k + 1) f := by
  have hlt := (List.getElem?_eq_some_iff.1 ha).1
  refine ⟨?_, by rw [List.length_append]; have := h.2.1; simp; omega, hlt⟩
  rw [h.1, gone_other ha hn]; simp
end Go.Proofs.YtflhmgnhjnaiiaaGreatDoor
/- The document's own answers of layer ent: Decode, Loose. -/
set_option linter.unusedVariables false
namespace Go.Proofs.YtflhmgnhjnaiiaaGreatDoor
open Go.ChangeShapes Go.WideShapes Go.ChangeAt Go.RowKit
open En
end Go.Proofs.YtflhmgnhjnaiiaaGreatDoor
/- Pieces of texts, by two places, from one, up to one. -/
set_option linter.unusedVariables false
namespace Go.Proofs.YtflhmgnhjnaiiaaGreatDoor
open Go.ChangeShapes Go.WideShapes Go.ChangeAt Go.RowKit
theorem ext_of (l : List UInt8) (a b : Nat) : (ByteArray.mk l.toArray).extract a b = ⟨((l.take b).drop a).toArray⟩ := by
  apply ByteArray.ext
  rw [ByteArray.data_extract]
  simp [List.drop_take]
theorem cut_both (l : List UInt8) (a b : Nat) (h1 : a ≤ b) (h2 : b ≤ l.length) (W : World) :
    (Instr.slice 9 (.string ⟨l.toArray⟩) (some (.int .i64 a)) (some (.int .i64 b)) none).run Tryz.prog W = .ok (.string ⟨((l.take b).drop a).toArray⟩) W := by
  rw [run_slice_string W 9 _ .i64 .i64 _ _ Tryz.underlying9 (by omega) (by omega) (by show (b : Int) ≤ l.length; omega)]
  rw [show (a : Int).toNat = a by omega, show (b : Int).toNat = b by omega, ext_of]
theorem cut_from (l : List UInt8) (x : Int) (a : Nat) (hx : x = a) (h1 : a ≤ l.length) (W : World) :
    (Instr.slice 9 (.string ⟨l.toArray⟩) (some (.int .i64 x)) none none).run Tryz.prog W = .ok (.string ⟨(l.drop a).toArray⟩) W := by
  subst hx
  have hs : (ByteArray.mk l.toArray).size = l.length := List.size_toArray
  rw [run_slice_string_l W 9 _ Tryz.underlying9 .i64 _ (by omega) (by rw [hs]; omega), hs]
  rw [show (a : Int).toNat = a by omega, ext_of, List.take_length]
theorem cut_to (l : List UInt8) (b : Nat) (h1 : b ≤ l.length) (W : World) :
    (Instr.slice 9 (.string ⟨l.toArray⟩) none (some (.int .i64 b)) none).run Tryz.prog W = .ok (.string ⟨(l.take b).toArray⟩) W := by
  have hs : (ByteArray.mk l.toArray).size = l.length := List.size_toArray
  rw [run_slice_string_h W 9 _ Tryz.underlying9 .i64 _ (by omega) (by rw [hs]; omega)]
  rw [show (b : Int).toNat = b by omega, ext_of, List.drop_zero]
end Go.Proofs.YtflhmgnhjnaiiaaGreatDoor
