import Derived.Test.YtjlpkgipdkjfhaaGreatDoorEa
import Derived.Test.YtjlpkgipdkjfhaaGreatDoorShelf
import Derived.Shelf.Strings.BuilderK
import Derived.Lib.Strings
import Derived.Lib.Walk
import Derived.Lib.ConvBytes
import Derived.Lib.AtoiErrMem
import Derived.Lib.Hide
import Derived.Laws.Strings3
import Derived.Laws.Closers25
import Derived.Laws.Closers25b
import Derived.WalkKit
import Derived.BigCall
import Derived.BigGuard
import Derived.Carry
import Derived.MapKept
set_option linter.unusedVariables false
set_option linter.unusedSimpArgs false
namespace Go.Proofs.YtjlpkgipdkjfhaaGreatDoor
open Go.ChangeShapes Go.WideShapes Go.ChangeAt Go.RowKit
open En
theorem bdSize : (Tryz.prog.info? 97).map (·.size) = some 2 := by kernel_rfl
theorem bdLies : liesAt Tryz.prog Tryz.prog.depth 97 (2 / Tryz.prog.cellsOf 97) 0 97 1 = true := by kernel_rfl
abbrev Bd (B b : Nat) (l : List UInt8) (w : World) : Prop := Lib.IsBuilderF 97 5 B b (Lib.byteCells l) w
structure Wrote (B b : Nat) (l : List UInt8) (w w' : World) : Prop where
  bd : Bd B b l w'
  below : Below B w w'
  others : Lib.OthersKept 5 (some b) w w'
theorem str_cells (l : List UInt8) : Lib.strCells ⟨l.toArray⟩ = Lib.byteCells l := by simp [Lib.strCells, Lib.byteCells]
theorem byteCells_app (a b : List UInt8) : Lib.byteCells (a ++ b) = Lib.byteCells a ++ Lib.byteCells b := by simp [Lib.byteCells]
set_option maxHeartbeats 1000000 in
set_option maxRecDepth 100000 in
theorem check_used (b : Nat) (w : World) (h0 : w.cell? ⟨b, 0, none⟩ = some (.pointer (some ⟨b, 0, none⟩))) :
    Calls Tryz.prog 114 #[.pointer (some ⟨b, 0, none⟩)] w fun e w' => e = .returned (.tuple #[]) ∧ w = w' := by
  obtain ⟨j, hj, _⟩ := Option.map_eq_some_iff.1 bdSize
  go_enter Tryz.func114, Tryz.ntmps114
  go_wp2
  rw [Lib.run_neq_ptr_same w _ Tryz.underlying95 hj]
  go_wp2
  go_end0
  exact ⟨rfl, rfl⟩
set_option maxHeartbeats 1000000 in
set_option maxRecDepth 100000 in
theorem check_fresh (b : Nat) (w : World) (h0 : w.cell? ⟨b, 0, none⟩ = some (.pointer none)) (hsh : w.shape? b = some (97, 2)) (hfz : w.frozen? ⟨b, 0, none⟩ = false) :
    Calls Tryz.prog 114 #[.pointer (some ⟨b, 0, none⟩)] w fun e w' => e = .returned (.tuple #[]) ∧ w' = w.setCell ⟨b, 0, none⟩ (.pointer (some ⟨b, 0, none⟩)) := by
  obtain ⟨j, hj, hjs⟩ := Option.map_eq_some_iff.1 bdSize
  go_enter Tryz.func114, Tryz.ntmps114
  go_wp2
  rw [Lib.run_to_unsafe w ⟨b, 0, none⟩ Tryz.underlying95 Tryz.underlying155 hj (by rw [hjs]; decide) hsh (Nat.zero_lt_succ 1)]
  simp only [Result.andThen]
  rw [Oper.upon_value]
  go_wp2
  rw [run_callFunc_extern Tryz.func165 (by kernel_rfl) (by kernel_rfl) (by kernel_rfl) (e := Extern.AbiNoEscape.same) (by kernel_rfl)]
  rw [Lib.run_noEscape]
  simp only [Result.andThen]
  rw [Oper.upon_value]
  go_wp2
  rw [Lib.run_from_unsafe w ⟨b, 0, none⟩ Tryz.underlying155 Tryz.underlying95 hj hsh bdLies]
  simp only [Result.andThen]
  rw [Oper.upon_value]
  go_wp2
  go_end0
  exact ⟨rfl, rfl⟩
theorem check_any (B b : Nat) (bs : List Value) (w : World) (h : Lib.IsBuilderF 97 5 B b bs w) :
    Calls Tryz.prog 114 #[.pointer (some ⟨b, 0, none⟩)] w fun e w' => e = .returned (.tuple #[]) ∧ Lib.BuilderAtF 97 5 B b (.pointer (some ⟨b, 0, none⟩)) bs w' ∧ Below B w w' ∧ Lib.OthersKept 5 (some b) w w' := by
  rcases h with h | h
  · refine (check_fresh b w h.cell0 h.shape h.frozen0).mono ?_
    rintro e w' ⟨rfl, rfl⟩
    exact ⟨rfl, h.used _, (Below.refl B w).setCell (p := ⟨b, 0, none⟩) h.1 _, (Lib.OthersKept.refl _ _ w).setCell ⟨b, 0, none⟩ rfl _⟩
  · refine (check_used b w h.cell0).mono ?_
    rintro e w' ⟨rfl, rfl⟩
    exact ⟨rfl, h, Below.refl B _, Lib.OthersKept.refl _ _ _⟩
set_option maxHeartbeats 2000000 in
set_option maxRecDepth 100000 in
theorem wstr_any (B b : Nat) (l s : List UInt8) (w : World) (h : Bd B b l w) (hlen : l.length + s.length ≤ 40000000000000) (hBw : B ≤ w.heap.size) :
    Calls Tryz.prog 73 #[.pointer (some ⟨b, 0, none⟩), .string ⟨s.toArray⟩] w fun e w' => e = .returned (.tuple #[.int .i64 s.length, .nilIface]) ∧ Wrote B b (l ++ s) w w' := by
  obtain ⟨i0, hi, hz0, hz1, hz2⟩ := info_parts info8
  have hsz : (ByteArray.mk s.toArray).size = s.length := List.size_toArray
  have hl : (Lib.byteCells l).length = l.length := Lib.byteCells_length l
  have HH := Lib.hid hlen
  go_enter Tryz.func73, Tryz.ntmps73
  go_wp2_with fail
  refine (check_any B b _ _ h).mono ?_
  rintro e w1 ⟨rfl, h1, hb1, hk1⟩
  obtain ⟨hB, v, hbk, hown, hne⟩ := h1
  have c0 : w1.cell? ⟨b, 0, none⟩ = some (.pointer (some ⟨b, 0, none⟩)) := by rw [Lib.cell_of_heap hbk]; rfl
  have c1 : w1.cell? ⟨b, 1, none⟩ = some v := by rw [Lib.cell_of_heap hbk]; rfl
  go_wp2_with (at_builtin; refine Lib.wpList_append_own_stringF _ rfl _ _ 25 9 rfl B 5 i0 Tryz.underlying25 Tryz.underlying9 hi hz0 hz1 hz2 _ _ _ rfl hown ⟨s.toArray⟩ rfl ?c3 ?c4 ?c5 ?_)
  case c3 => unfold maxLen; have := HH.out; omega
  case c4 => have := HH.out; omega
  case c5 => have := hb1.size; omega
  intro v' w2 hown' hgrow _
  have hlt : b < w1.heap.size := (Array.getElem?_eq_some_iff.1 hbk).1
  have hb2 : w2.heap[b]? = some (.cells #[.pointer (some ⟨b, 0, none⟩), v] 97 (0, 0)) := by
    rw [hgrow.block b hlt (fun e => hne e.symm)]
    exact hbk
  have d0 : w2.cell? ⟨b, 0, none⟩ = some (.pointer (some ⟨b, 0, none⟩)) := by rw [Lib.cell_of_heap hb2]; rfl
  have d1 : w2.cell? ⟨b, 1, none⟩ = some v := by rw [Lib.cell_of_heap hb2]; rfl
  have f1 : w2.frozen? ⟨b, 1, none⟩ = false := Lib.frozen_of_heap hb2 1
  obtain ⟨ao, n', cp, rfl⟩ : ∃ ao n' cp, v' = .slice ao n' cp := by
    rcases hown'.2 with ⟨hv, _⟩ | ⟨g, cap, cur, fz, hv, _⟩
    · exact ⟨_, _, _, hv⟩
    · exact ⟨_, _, _, hv⟩
  go_wp2
  go_ret2
  refine ⟨by simp, ?_, ?_, (hk1.grown hgrow (Lib.ownsRowF_kind hown)).setCell ⟨b, 1, none⟩ rfl _⟩
  · unfold Bd; rw [byteCells_app]
    exact .inr (Lib.BuilderAtF.put (T := 97) (e := 5) hB hb2 (bs' := Lib.byteCells l ++ Lib.byteCells s) (by rw [← str_cells s, List.length_append, Lib.strCells_length, hl, hsz]; exact hown') (by decide))
  · exact (hb1.grown hgrow (by have := hb1.size; omega) (fun k hk => (hown.lt k hk).1)).setCell (p := ⟨b, 1, none⟩) hB _
set_option maxHeartbeats 2000000 in
set_option maxRecDepth 100000 in
theorem wbyte_any (B b : Nat) (l : List UInt8) (c : UInt8) (w : World) (h : Bd B b l w) (hlen : l.length ≤ 40000000000000) (hBw : B ≤ w.heap.size) :
    Calls Tryz.prog 219 #[.pointer (some ⟨b, 0, none⟩), .int .u8 c.toNat] w fun e w' => e = .returned .nilIface ∧ Wrote B b (l ++ [c]) w w' := by
  obtain ⟨i0, hi, hz0, hz1, hz2⟩ := info_parts info8
  have hl : (Lib.byteCells l).length = l.length := Lib.byteCells_length l
  have HH := Lib.hid hlen
  go_enter Tryz.func219, Tryz.ntmps219
  go_wp2_with fail
  refine (check_any B b _ _ h).mono ?_
  rintro e w1 ⟨rfl, h1, hb1, hk1⟩
  obtain ⟨hB, v, hbk, hown, hne⟩ := h1
  have c0 : w1.cell? ⟨b, 0, none⟩ = some (.pointer (some ⟨b, 0, none⟩)) := by rw [Lib.cell_of_heap hbk]; rfl
  have c1 : w1.cell? ⟨b, 1, none⟩ = some v := by rw [Lib.cell_of_heap hbk]; rfl
  go_wp2_with (at_builtin; refine wpList_append_ownF _ rfl _ _ 25 rfl B 5 i0 (.int .u8 0) 1 1 Tryz.underlying25 hi hz0 hz1 hz2 rfl (by decide) _ _ _ rfl (hown.alloc _) ⟨w1.heap.size, 0, none⟩ 1 1 [.int .u8 c.toNat] rfl rfl ?c1 ?c2 ?c3 ?c4 ?c5 ?_)
  case c1 =>
    intro j u hj
    match j, hj with
    | 0, hj => simp at hj; subst hj; simp [Addr.add]
  case c2 => intro u hu; simp at hu; subst hu; rfl
  case c3 => unfold maxLen; have := HH.out; omega
  case c4 => have := HH.out; omega
  case c5 => have := hb1.size; simp; omega
  intro v' w2 hown' hgrow _
  have hlt : b < w1.heap.size := (Array.getElem?_eq_some_iff.1 hbk).1
  have hb2 : w2.heap[b]? = some (.cells #[.pointer (some ⟨b, 0, none⟩), v] 97 (0, 0)) := by
    rw [hgrow.block b (by simp; omega) (fun e => hne e.symm), Lib.alloc_old w1 _ b hlt]
    exact hbk
  have d0 : w2.cell? ⟨b, 0, none⟩ = some (.pointer (some ⟨b, 0, none⟩)) := by rw [Lib.cell_of_heap hb2]; rfl
  have d1 : w2.cell? ⟨b, 1, none⟩ = some v := by rw [Lib.cell_of_heap hb2]; rfl
  have f1 : w2.frozen? ⟨b, 1, none⟩ = false := Lib.frozen_of_heap hb2 1
  obtain ⟨ao, n', cp, rfl⟩ : ∃ ao n' cp, v' = .slice ao n' cp := by
    rcases hown'.2 with ⟨hv, _⟩ | ⟨g, cap, cur, fz, hv, _⟩
    · exact ⟨_, _, _, hv⟩
    · exact ⟨_, _, _, hv⟩
  go_wp2
  go_ret
  refine ⟨rfl, ?_, ?_, ((hk1.alloc _).grown hgrow (Lib.ownsRowF_kind (hown.alloc _))).setCell ⟨b, 1, none⟩ rfl _⟩
  · unfold Bd; rw [byteCells_app]
    exact .inr (Lib.BuilderAtF.put (T := 97) (e := 5) hB hb2 (bs' := Lib.byteCells l ++ Lib.byteCells [c]) (by simpa [Lib.byteCells] using hown') (by decide))
  · exact ((hb1.alloc (by have := hb1.size; omega) _).grown hgrow (by have := hb1.size; simp; omega) (fun k hk => (hown.lt k hk).1)).setCell (p := ⟨b, 1, none⟩) hB _
theorem bstr_any (B b : Nat) (l : List UInt8) (w : World) (h : Bd B b l w) (hBw : B ≤ w.heap.size) :
    Calls Tryz.prog 74 #[.pointer (some ⟨b, 0, none⟩)] w fun e w' => e = .returned (.string ⟨l.toArray⟩) ∧ Below B w w' :=
  (Tryz.Builder_String_any_k B b l w h hBw).mono fun e w' ⟨h1, _, h2, _⟩ => ⟨h1, h2⟩
theorem blen_any (B b : Nat) (l : List UInt8) (w : World) (h : Bd B b l w) :
    Calls Tryz.prog 150 #[.pointer (some ⟨b, 0, none⟩)] w fun e w' => e = .returned (.int .i64 l.length) ∧ w = w' :=
  (Tryz.Builder_Len_f B b _ w h).mono fun e w' ⟨h1, h2⟩ => ⟨by rw [h1, Lib.byteCells_length], h2.symm⟩
theorem bd_new (w : World) : Bd w.heap.size w.heap.size [] (w.alloc (.cells #[.pointer none, .slice none 0 0] 97)) := by
  refine .inl ⟨Nat.le_refl _, .slice none 0 0, (by show (w.heap.push _)[w.heap.size]? = _; simp), World.ownsRowF_nil _ _ _ _, ?_⟩
  simp [Value.ownBlock]
def puT (n : Option Int) : Value := match n with
  | some a => .tuple #[.int .u64 a, .nilIface]
  | none => .tuple #[.int .u64 0, .iface 165 (.int .i64 2)]
def loB (c : UInt8) : Int := bits .or .u8 (c.toNat : Int) 32
theorem lo_dg (c : UInt8) (h : ¬ (48 ≤ c.toNat ∧ c.toNat ≤ 57)) : 0 ≤ loB c ∧ loB c < 256 ∧ (97 ≤ loB c → loB c ≤ 102 → dg c = loB c - 87) ∧ (¬ (97 ≤ loB c ∧ loB c ≤ 102) → dg c = 99) ∧ (c.toNat = 95 → loB c = 127) := by
  have key : ∀ n : Fin 256, ¬ (48 ≤ (UInt8.ofNat n).toNat ∧ (UInt8.ofNat n).toNat ≤ 57) → 0 ≤ loB (UInt8.ofNat n) ∧ loB (UInt8.ofNat n) < 256 ∧ (97 ≤ loB (UInt8.ofNat n) → loB (UInt8.ofNat n) ≤ 102 → dg (UInt8.ofNat n) = loB (UInt8.ofNat n) - 87) ∧ (¬ (97 ≤ loB (UInt8.ofNat n) ∧ loB (UInt8.ofNat n) ≤ 102) → dg (UInt8.ofNat n) = 99) ∧ ((UInt8.ofNat n).toNat = 95 → loB (UInt8.ofNat n) = 127) := by decide +kernel
  have := key ⟨c.toNat, c.toNat_lt⟩
  simp only [UInt8.ofNat_toNat] at this
  exact this h
theorem lower_any (c : UInt8) (x : Int) (hx : loB c = x) (W : World) : Calls Tryz.prog 259 #[.int .u8 c.toNat] W fun e w' => e = .returned (.int .u8 x) ∧ W = w' := by
  refine (Tryz.internal_strconv_lower (c.toNat : Int) W).mono ?_
  rintro e w' ⟨rfl, rfl⟩
  exact ⟨by rw [← hx]; rfl, rfl⟩
theorem pow_step (base : Int) (hb : 2 ≤ base) (n k : Nat) (h : k + 1 ≤ n) (B : Int) (hB : base ^ n ≤ B) (a d : Int) (ha : a < base ^ k) (hd : d < base) : a * base + d < base ^ (k + 1) ∧ base ^ (k + 1) ≤ B := by
  have h1 : base ^ (k + 1) ≤ base ^ n := by
    obtain ⟨m, rfl⟩ : ∃ m, n = k + 1 + m := ⟨n - (k + 1), by omega⟩
    rw [show base ^ (k + 1 + m) = base ^ (k + 1) * base ^ m from Int.pow_add ..]
    have p1 : 0 < base ^ (k + 1) := Int.pow_pos (by omega)
    have p2 : 0 < base ^ m := Int.pow_pos (by omega)
    have := Int.mul_le_mul_of_nonneg_left (show 1 ≤ base ^ m by omega) (Int.le_of_lt p1)
    rw [Int.mul_one] at this; exact this
  have h2 : base ^ (k + 1) = base ^ k * base := Int.pow_succ _ _
  have h3 : (a + 1) * base ≤ base ^ k * base := Int.mul_le_mul_of_nonneg_right (by omega) (by omega)
  rw [Int.add_mul, Int.one_mul] at h3
  exact ⟨by omega, by omega⟩
set_option maxHeartbeats 8000000 in
set_option maxRecDepth 100000 in
theorem pu10_any (l : List UInt8) (w : World) (hl : l.length ≤ 9) : Calls Tryz.prog 228 #[.string ⟨l.toArray⟩, .int .i64 10, .int .i64 32] w fun e w' => e = .returned (puT (num 10 l)) ∧ Kept w w' := by
  have HL := Lib.hid hl
  by_cases hne : l = []
  · subst hne
    go_enter Tryz.func228, Tryz.ntmps228
    go_wp2
    go_ret2
    exact ⟨rfl, Kept.refl _⟩
  have hemp : l.isEmpty = false := by simpa using hne
  have HN0 := Lib.hid (show num 10 l = numF 10 0 l by unfold num; rw [if_neg hne])
  have hsz : (ByteArray.mk l.toArray).size = l.length := List.size_toArray
  have hcv := Lib.run_convert_string_bytes (P := Tryz.prog) w 9 25 5 ⟨l.toArray⟩ Tryz.underlying9 Tryz.underlying25 Tryz.underlying5
  have hB : ∀ j, j < l.length → (Lib.bytesWorld w 5 ⟨l.toArray⟩).cell? ⟨w.heap.size, j, none⟩ = some (.int .u8 (l.getD j 0).toNat) := fun j hj => by
    have := Lib.bytesWorld_cell w 5 ⟨l.toArray⟩ j (by rw [hsz]; exact hj)
    simpa using this
  have HK := Lib.hid (Kept.of_below (Lib.bytesWorld_below w 5 ⟨l.toArray⟩))
  have hpw := Lib.hid (show (10 : Int) ^ l.length ≤ 4294967296 by
    have h8 : ∀ n : Nat, n ≤ 9 → (10 : Int) ^ n ≤ 4294967296 := by
      intro n hn
      have : ∀ m : Fin 10, (10 : Int) ^ m.val ≤ 4294967296 := by decide +kernel
      exact this ⟨n, by omega⟩
    exact h8 _ hl)
  generalize Lib.bytesWorld w 5 ⟨l.toArray⟩ = W1 at *
  clear hne hl
  go_enter Tryz.func228, Tryz.ntmps228
  go_wp2
  go_loop [12, 13, 101] (fun vu vn vi => ∃ (k : Nat) (a : Int), vu = .bool false ∧ vn = .int .u64 a ∧ vi = .int .i64 k ∧ k ≤ l.length ∧ Hid (0 ≤ a ∧ a < (10 : Int) ^ k ∧ numF 10 0 l = numF 10 a (l.drop k)))
    (fun _ _ vi => l.length - (intOf vi).toNat)
  case atStart => exact ⟨0, 0, rfl, rfl, rfl, by omega, Lib.hid ⟨by omega, by decide, rfl⟩⟩
  case round =>
    obtain ⟨k, a, rfl, rfl, rfl, hk, hh⟩ := hrel
    obtain ⟨a0, ha, hdec⟩ := hh.out
    have hkl := HL.out
    clear hh
    by_cases hkn : k < l.length
    · have hc := hB k hkn
      rw [drop_at hkn] at hdec
      have hstep := fun d hd => pow_step 10 (by omega) l.length k hkn 4294967296 hpw.out a d ha hd
      generalize l.getD k 0 = c at hc hdec
      have hc256 : c.toNat < 256 := c.toNat_lt
      have acut : a < 4294967296 := by have := hstep 0 (by omega); omega
      clear hB ha
      rw [numF] at hdec
      by_cases hdig : 48 ≤ c.toNat ∧ c.toNat ≤ 57
      · have hd : dg c = (c.toNat : Int) - 48 := by unfold dg; rw [if_pos hdig]
        rw [if_pos (by omega), hd] at hdec
        have hs := hstep ((c.toNat : Int) - 48) (by omega)
        obtain ⟨hd0, hd1⟩ := hdig
        have hov : a * 10 + ((c.toNat : Int) - 48) ≤ 4294967295 := by omega
        have HN : Hid (0 ≤ a * 10 + ((c.toNat : Int) - 48) ∧ a * 10 + ((c.toNat : Int) - 48) < (10 : Int) ^ (k + 1) ∧ numF 10 0 l = numF 10 (a * 10 + ((c.toNat : Int) - 48)) (l.drop (k + 1))) := Lib.hid ⟨by omega, hs.1, by rw [hdec]; congr 1; omega⟩
        clear hs hstep hdec hd
        go_wp2
        refine ⟨⟨k + 1, a * 10 + ((c.toNat : Int) - 48), rfl, (by first | rfl | (congr 1; omega)), (by first | rfl | (congr 1; omega)), by omega, HN⟩, by simp [intOf]; omega⟩
      obtain ⟨x0, x1, x2, x3, x4⟩ := lo_dg c hdig
      have hlow := lower_any c _ rfl
      have hlow95 : ∀ W : World, Calls Tryz.prog 259 #[.int .u8 95] W fun e w' => e = .returned (.int .u8 127) ∧ W = w' := fun W => lower_any 95 127 (by decide) W
      generalize loB c = x at *
      have hd : ¬ dg c < 10 := by
        by_cases hx : 97 ≤ x ∧ x ≤ 102
        · have := x2 hx.1 hx.2; omega
        · have := x3 hx; omega
      rw [if_neg hd] at hdec
      have HR := Lib.hid (show num 10 l = none by rw [HN0.out]; exact hdec)
      clear hstep hdec hd x2 x3 x4
      go_wp2_with (go_at_call 259; (first | refine (hlow _).mono ?_ | refine (hlow95 _).mono ?_); rintro e w' ⟨rfl, rfl⟩)
      all_goals go_ret2
      all_goals exact ⟨by rw [HR.out]; rfl, HK.out⟩
    · have hF : numF 10 a (l.drop k) = some a := by rw [List.drop_eq_nil_of_le (by omega)]; rfl
      rw [hF] at hdec
      have HR := Lib.hid (show num 10 l = some a by rw [HN0.out]; exact hdec)
      clear hF hdec ha
      go_wp2
      go_ret2
      exact ⟨by rw [HR.out]; rfl, HK.out⟩
set_option maxHeartbeats 8000000 in
set_option maxRecDepth 100000 in
theorem pu16_any (l : List UInt8) (w : World) (hl : l.length ≤ 8) : Calls Tryz.prog 228 #[.string ⟨l.toArray⟩, .int .i64 16, .int .i64 32] w fun e w' => e = .returned (puT (num 16 l)) ∧ Kept w w' := by
  have HL := Lib.hid hl
  by_cases hne : l = []
  · subst hne
    go_enter Tryz.func228, Tryz.ntmps228
    go_wp2
    go_ret2
    exact ⟨rfl, Kept.refl _⟩
  have hemp : l.isEmpty = false := by simpa using hne
  have HN0 := Lib.hid (show num 16 l = numF 16 0 l by unfold num; rw [if_neg hne])
  have hsz : (ByteArray.mk l.toArray).size = l.length := List.size_toArray
  have hcv := Lib.run_convert_string_bytes (P := Tryz.prog) w 9 25 5 ⟨l.toArray⟩ Tryz.underlying9 Tryz.underlying25 Tryz.underlying5
  have hB : ∀ j, j < l.length → (Lib.bytesWorld w 5 ⟨l.toArray⟩).cell? ⟨w.heap.size, j, none⟩ = some (.int .u8 (l.getD j 0).toNat) := fun j hj => by
    have := Lib.bytesWorld_cell w 5 ⟨l.toArray⟩ j (by rw [hsz]; exact hj)
    simpa using this
  have HK := Lib.hid (Kept.of_below (Lib.bytesWorld_below w 5 ⟨l.toArray⟩))
  have hpw := Lib.hid (show (16 : Int) ^ l.length ≤ 4294967296 by
    have h8 : ∀ n : Nat, n ≤ 8 → (16 : Int) ^ n ≤ 4294967296 := by
      intro n hn
      have : ∀ m : Fin 9, (16 : Int) ^ m.val ≤ 4294967296 := by decide +kernel
      exact this ⟨n, by omega⟩
    exact h8 _ hl)
  generalize Lib.bytesWorld w 5 ⟨l.toArray⟩ = W1 at *
  clear hne hl
  go_enter Tryz.func228, Tryz.ntmps228
  go_wp2
  go_loop [12, 13, 101] (fun vu vn vi => ∃ (k : Nat) (a : Int), vu = .bool false ∧ vn = .int .u64 a ∧ vi = .int .i64 k ∧ k ≤ l.length ∧ Hid (0 ≤ a ∧ a < (16 : Int) ^ k ∧ numF 16 0 l = numF 16 a (l.drop k)))
    (fun _ _ vi => l.length - (intOf vi).toNat)
  case atStart => exact ⟨0, 0, rfl, rfl, rfl, by omega, Lib.hid ⟨by omega, by decide, rfl⟩⟩
  case round =>
    obtain ⟨k, a, rfl, rfl, rfl, hk, hh⟩ := hrel
    obtain ⟨a0, ha, hdec⟩ := hh.out
    have hkl := HL.out
    clear hh
    by_cases hkn : k < l.length
    · have hc := hB k hkn
      rw [drop_at hkn] at hdec
      have hstep := fun d hd => pow_step 16 (by omega) l.length k hkn 4294967296 hpw.out a d ha hd
      generalize l.getD k 0 = c at hc hdec
      have hc256 : c.toNat < 256 := c.toNat_lt
      have acut : a < 4294967296 := by have := hstep 0 (by omega); omega
      clear hB ha
      rw [numF] at hdec
      by_cases hdig : 48 ≤ c.toNat ∧ c.toNat ≤ 57
      · have hd : dg c = (c.toNat : Int) - 48 := by unfold dg; rw [if_pos hdig]
        rw [if_pos (by omega), hd] at hdec
        have hs := hstep ((c.toNat : Int) - 48) (by omega)
        obtain ⟨hd0, hd1⟩ := hdig
        have hov : a * 16 + ((c.toNat : Int) - 48) ≤ 4294967295 := by omega
        have HN : Hid (0 ≤ a * 16 + ((c.toNat : Int) - 48) ∧ a * 16 + ((c.toNat : Int) - 48) < (16 : Int) ^ (k + 1) ∧ numF 16 0 l = numF 16 (a * 16 + ((c.toNat : Int) - 48)) (l.drop (k + 1))) := Lib.hid ⟨by omega, hs.1, by rw [hdec]; congr 1; omega⟩
        clear hs hstep hdec hd
        go_wp2
        refine ⟨⟨k + 1, a * 16 + ((c.toNat : Int) - 48), rfl, (by first | rfl | (congr 1; omega)), (by first | rfl | (congr 1; omega)), by omega, HN⟩, by simp [intOf]; omega⟩
      obtain ⟨x0, x1, x2, x3, x4⟩ := lo_dg c hdig
      have hlow := lower_any c _ rfl
      have hlow95 : ∀ W : World, Calls Tryz.prog 259 #[.int .u8 95] W fun e w' => e = .returned (.int .u8 127) ∧ W = w' := fun W => lower_any 95 127 (by decide) W
      generalize loB c = x at *
      by_cases hx : 97 ≤ x ∧ x ≤ 102
      · have hd := x2 hx.1 hx.2
        rw [if_pos (by omega), hd] at hdec
        have hs := hstep (x - 87) (by omega)
        obtain ⟨hd0, hd1⟩ := hx
        have hov : a * 16 + (x - 87) ≤ 4294967295 := by omega
        have HN : Hid (0 ≤ a * 16 + (x - 87) ∧ a * 16 + (x - 87) < (16 : Int) ^ (k + 1) ∧ numF 16 0 l = numF 16 (a * 16 + (x - 87)) (l.drop (k + 1))) := Lib.hid ⟨by omega, hs.1, by rw [hdec]; congr 1; omega⟩
        have hdig' : ¬ (48 ≤ (c.toNat : Int) ∧ (c.toNat : Int) ≤ 57) := by omega
        have h95 : ((c.toNat : Int) == 95) = false := by
          refine beq_eq_false_iff_ne.2 (fun e => ?_)
          have := x4 (by omega); omega
        clear hs hstep hdec hd x2 x3 x4
        go_wp2_with (go_at_call 259; (first | refine (hlow _).mono ?_ | refine (hlow95 _).mono ?_); rintro e w' ⟨rfl, rfl⟩)
        all_goals
          refine ⟨⟨k + 1, a * 16 + (x - 87), rfl, (by first | rfl | (congr 1; omega)), (by first | rfl | (congr 1; omega)), by omega, HN⟩, by simp [intOf]; omega⟩
      have hd := x3 hx
      rw [if_neg (by omega)] at hdec
      have HR := Lib.hid (show num 16 l = none by rw [HN0.out]; exact hdec)
      clear hstep hdec hd x2 x3 x4
      go_wp2_with (go_at_call 259; (first | refine (hlow _).mono ?_ | refine (hlow95 _).mono ?_); rintro e w' ⟨rfl, rfl⟩)
      all_goals go_ret2
      all_goals exact ⟨by rw [HR.out]; rfl, HK.out⟩
    · have hF : numF 16 a (l.drop k) = some a := by rw [List.drop_eq_nil_of_le (by omega)]; rfl
      rw [hF] at hdec
      have HR := Lib.hid (show num 16 l = some a by rw [HN0.out]; exact hdec)
      clear hF hdec ha
      go_wp2
      go_ret2
      exact ⟨by rw [HR.out]; rfl, HK.out⟩
theorem set_push (a : Array Obj) (x y : Obj) : (a.push x).setIfInBounds a.size y = a.push y := by
  apply Array.ext_getElem?
  intro i
  rw [Array.getElem?_setIfInBounds, Array.getElem?_push, Array.getElem?_push]
  by_cases h : a.size = i
  · subst h; simp
  · rw [if_neg h, if_neg (fun e => h e.symm), if_neg (fun e => h e.symm)]
theorem run_ins (w : World) (es : Array MapEntry) (c : Nat) (s : ByteArray) (v : Value) (hf : Instr.findNow .string (.string s) es.toList 0 = some none) :
    (Instr.mapUpdate 247 (.map (some w.heap.size)) (.string s) v).run Tryz.prog (w.alloc (.map es c)) = .ok () (w.alloc (.map (es.push { key := .string s, val := v, born := c }) (c + 1))) := by
  have hb := (MapKept.heap_alloc w (.map es c)).1
  unfold Instr.mapUpdate
  simp only [Sem.run_bind, run_underlying Tryz.underlying247, Result.andThen, MapKept.run_getObj_map hb]
  rw [MapKept.run_checkKey Tryz.underlying9 (by simp [MapKept.IsKey]) false 9999]
  simp only [MapKept.run_findKey Tryz.underlying9 hf]
  rw [MapKept.run_setObj_map _ hb]
  congr 1
  show ({ w with heap := (w.heap.push _).setIfInBounds w.heap.size _ } : World) = { w with heap := w.heap.push _ }
  rw [set_push]
def es5 : Array MapEntry := #[{ key := .string ⟨#[97, 109, 112]⟩, val := .int .i64 38, born := 0 }, { key := .string ⟨#[108, 116]⟩, val := .int .i64 60, born := 1 }, { key := .string ⟨#[103, 116]⟩, val := .int .i64 62, born := 2 }, { key := .string ⟨#[113, 117, 111, 116]⟩, val := .int .i64 34, born := 3 }, { key := .string ⟨#[97, 112, 111, 115]⟩, val := .int .i64 39, born := 4 }]
theorem named_any (w : World) : Calls Tryz.prog 279 #[] w fun e w' => e = .returned (.map (some w.heap.size)) ∧ w' = w.alloc (.map es5 5) := by
  have hmm := @run_makeMap Tryz.prog
  have h1 := run_ins w #[] 0 ⟨#[97, 109, 112]⟩ (.int .i64 38) rfl
  have h2 := run_ins w #[{ key := .string ⟨#[97, 109, 112]⟩, val := .int .i64 38, born := 0 }] 1 ⟨#[108, 116]⟩ (.int .i64 60) rfl
  have h3 := run_ins w #[{ key := .string ⟨#[97, 109, 112]⟩, val := .int .i64 38, born := 0 }, { key := .string ⟨#[108, 116]⟩, val := .int .i64 60, born := 1 }] 2 ⟨#[103, 116]⟩ (.int .i64 62) rfl
  have h4 := run_ins w #[{ key := .string ⟨#[97, 109, 112]⟩, val := .int .i64 38, born := 0 }, { key := .string ⟨#[108, 116]⟩, val := .int .i64 60, born := 1 }, { key := .string ⟨#[103, 116]⟩, val := .int .i64 62, born := 2 }] 3 ⟨#[113, 117, 111, 116]⟩ (.int .i64 34) rfl
  have h5 := run_ins w #[{ key := .string ⟨#[97, 109, 112]⟩, val := .int .i64 38, born := 0 }, { key := .string ⟨#[108, 116]⟩, val := .int .i64 60, born := 1 }, { key := .string ⟨#[103, 116]⟩, val := .int .i64 62, born := 2 }, { key := .string ⟨#[113, 117, 111, 116]⟩, val := .int .i64 34, born := 3 }] 4 ⟨#[97, 112, 111, 115]⟩ (.int .i64 39) rfl
  simp only [List.push_toArray, List.cons_append, List.nil_append, Nat.reduceAdd] at h1 h2 h3 h4 h5
  go_enter Tryz.func279, Tryz.ntmps279
  go_wp2
  go_ret
  exact ⟨rfl, rfl⟩
def nmd (b : List UInt8) : Option Int :=
  if b = [97, 109, 112] then some 38 else if b = [108, 116] then some 60 else if b = [103, 116] then some 62
  else if b = [113, 117, 111, 116] then some 34 else if b = [97, 112, 111, 115] then some 39 else none
theorem ba_beq (a b : List UInt8) : ((ByteArray.mk a.toArray) == (ByteArray.mk b.toArray)) = decide (a = b) := by
  rw [Bool.eq_iff_iff, MapKept.bytes_beq, decide_eq_true_iff]
  constructor
  · intro e
    have := congrArg (fun z => z.data.toList) e
    simpa using this
  · intro e; rw [e]
theorem find5 (b : List UInt8) : ∃ r, Instr.findNow .string (.string ⟨b.toArray⟩) es5.toList 0 = some r ∧ r.map (·.2) = (nmd b).map (Value.int .i64 ·) := by
  unfold es5 nmd
  simp only [Instr.findNow, Instr.sameNow, ba_beq]
  by_cases e1 : b = [97, 109, 112]
  · exact ⟨_, by simp only [e1, decide_true]; rfl, by rw [if_pos e1]; rfl⟩
  rw [if_neg e1]
  simp only [e1, decide_false]
  by_cases e2 : b = [108, 116]
  · exact ⟨_, by simp only [e2, decide_true]; rfl, by rw [if_pos e2]; rfl⟩
  rw [if_neg e2]
  simp only [e2, decide_false]
  by_cases e3 : b = [103, 116]
  · exact ⟨_, by simp only [e3, decide_true]; rfl, by rw [if_pos e3]; rfl⟩
  rw [if_neg e3]
  simp only [e3, decide_false]
  by_cases e4 : b = [113, 117, 111, 116]
  · exact ⟨_, by simp only [e4, decide_true]; rfl, by rw [if_pos e4]; rfl⟩
  rw [if_neg e4]
  simp only [e4, decide_false]
  by_cases e5 : b = [97, 112, 111, 115]
  · exact ⟨_, by simp only [e5, decide_true]; rfl, by rw [if_pos e5]; rfl⟩
  rw [if_neg e5]
  simp only [e5, decide_false]
  exact ⟨none, rfl, rfl⟩
theorem look5 (w : World) (k : Nat) (hb : w.heap[k]? = some (.map es5 5)) (b : List UInt8) :
    (Instr.lookup 247 (.map (some k)) (.string ⟨b.toArray⟩) true).run Tryz.prog w = .ok (.tuple #[.int .i64 ((nmd b).getD 0), .bool (nmd b).isSome]) w := by
  obtain ⟨r, h1, h2⟩ := find5 b
  unfold Instr.lookup
  simp only [Sem.run_bind, run_underlying Tryz.underlying247, Result.andThen, MapKept.run_getObj_map hb, Sem.run_pure]
  rw [MapKept.run_checkKey Tryz.underlying9 (by simp [MapKept.IsKey]) _ 9999]
  simp only [MapKept.run_findKey Tryz.underlying9 h1]
  cases hn : nmd b with
  | none =>
    rw [hn] at h2
    cases r with
    | none => simp [Tryz.zeroValue3]
    | some p => cases h2
  | some n =>
    rw [hn] at h2
    cases r with
    | none => cases h2
    | some p =>
      obtain ⟨i, v⟩ := p
      simp only [Option.map_some, Option.some.injEq] at h2
      subst h2
      simp
theorem sg_nmd (b : List UInt8) (n : Int) (h : nmd b = some n) : (sg b).getD [] = rnS n ∧ (sg b).isSome = okN n ∧ okN n = true ∧ 0 ≤ n ∧ n ≤ 100 := by
  unfold nmd at h
  by_cases e1 : b = [97, 109, 112]
  · rw [if_pos e1] at h; cases h; subst e1; exact ⟨by decide, by decide, by decide, by decide, by decide⟩
  rw [if_neg e1] at h
  by_cases e2 : b = [108, 116]
  · rw [if_pos e2] at h; cases h; subst e2; exact ⟨by decide, by decide, by decide, by decide, by decide⟩
  rw [if_neg e2] at h
  by_cases e3 : b = [103, 116]
  · rw [if_pos e3] at h; cases h; subst e3; exact ⟨by decide, by decide, by decide, by decide, by decide⟩
  rw [if_neg e3] at h
  by_cases e4 : b = [113, 117, 111, 116]
  · rw [if_pos e4] at h; cases h; subst e4; exact ⟨by decide, by decide, by decide, by decide, by decide⟩
  rw [if_neg e4] at h
  by_cases e5 : b = [97, 112, 111, 115]
  · rw [if_pos e5] at h; cases h; subst e5; exact ⟨by decide, by decide, by decide, by decide, by decide⟩
  rw [if_neg e5] at h; cases h
def sgR : List UInt8 → Option (List UInt8)
  | 35 :: 120 :: r => (num 16 r).bind rn
  | 35 :: r => (num 10 r).bind rn
  | _ => none
set_option maxRecDepth 100000 in
theorem sg_rest (b : List UInt8) (h : nmd b = none) : sg b = sgR b := by
  unfold nmd at h
  by_cases e1 : b = [97, 109, 112]
  · rw [if_pos e1] at h; cases h
  rw [if_neg e1] at h
  by_cases e2 : b = [108, 116]
  · rw [if_pos e2] at h; cases h
  rw [if_neg e2] at h
  by_cases e3 : b = [103, 116]
  · rw [if_pos e3] at h; cases h
  rw [if_neg e3] at h
  by_cases e4 : b = [113, 117, 111, 116]
  · rw [if_pos e4] at h; cases h
  rw [if_neg e4] at h
  by_cases e5 : b = [97, 112, 111, 115]
  · rw [if_pos e5] at h; cases h
  clear h
  unfold sg
  rw [if_neg e1, if_neg e2, if_neg e3, if_neg e4, if_neg e5]
  rfl
def Env (w : World) : Prop := Lib.Utf8Tabs 4 5 w ∧ ∃ ev, w.cell? ⟨2, 0, none⟩ = some ev ∧ (ev = .nilIface ∨ ∃ te pe, ev = .iface te pe)
def PuP (n : Option Int) (e : Ending) : Prop := match n with
  | some a => e = .returned (.tuple #[.int .u64 a, .nilIface])
  | none => ∃ N, e = .returned (.tuple #[.int .u64 0, .iface 168 (.pointer (some ⟨N, 0, none⟩))])
set_option maxRecDepth 100000 in
theorem num_bd {base : Int} (hb : 2 ≤ base) (hb2 : base ≤ 16) : ∀ (l : List UInt8) (k : Nat) (a n : Int), 0 ≤ a → a < base ^ k → numF base a l = some n → 0 ≤ n ∧ n < base ^ (k + l.length)
  | [], k, a, n, h0, h1, h => by simp only [numF, Option.some.injEq] at h; subst h; exact ⟨h0, h1⟩
  | c :: r, k, a, n, h0, h1, h => by
    rw [numF] at h
    by_cases q : dg c < base
    · rw [if_pos q] at h
      have hd := dg_bd c
      have hs := pow_step base hb (k + 1) k (Nat.le_refl _) _ (Int.le_refl _) a (dg c) h1 q
      have hm : 0 ≤ base * a := Int.mul_nonneg (by omega) h0
      rw [Int.mul_comm] at hs
      have := num_bd hb hb2 r (k + 1) _ n (by omega) hs.1 h
      rw [List.length_cons, show k + (r.length + 1) = k + 1 + r.length by omega]; exact this
    · rw [if_neg q] at h; cases h
set_option maxRecDepth 100000 in
theorem num_lo {base : Int} (b : base = 10 ∨ base = 16) {l : List UInt8} (hl : l.length ≤ if base = 10 then 9 else 8) {n : Int} (h : num base l = some n) : 0 ≤ n ∧ n ≤ 4294967295 := by
  have hne := num_ne h
  unfold num at h
  rw [if_neg hne] at h
  rcases b with rfl | rfl
  · have := num_bd (by omega) (by omega) l 0 0 n (by omega) (by decide) h
    rw [if_pos rfl] at hl
    have h8 : ∀ m : Fin 10, (10 : Int) ^ (0 + m.val) ≤ 4294967296 := by decide +kernel
    have := h8 ⟨l.length, by omega⟩
    simp only at this
    omega
  · have := num_bd (by omega) (by omega) l 0 0 n (by omega) (by decide) h
    rw [if_neg (by decide)] at hl
    have h8 : ∀ m : Fin 9, (16 : Int) ^ (0 + m.val) ≤ 4294967296 := by decide +kernel
    have := h8 ⟨l.length, by omega⟩
    simp only at this
    omega
set_option maxRecDepth 100000 in
theorem pu_any (base : Int) (hb : base = 10 ∨ base = 16) (l : List UInt8) (w : World) (hl : l.length ≤ if base = 10 then 9 else 8) : Calls Tryz.prog 228 #[.string ⟨l.toArray⟩, .int .i64 base, .int .i64 32] w fun e w' => e = .returned (puT (num base l)) ∧ Kept w w' := by
  rcases hb with rfl | rfl
  · exact pu10_any l w (by simpa using hl)
  · exact pu16_any l w (by simpa using hl)
set_option maxRecDepth 100000 in
set_option maxRecDepth 100000 in
theorem Env.kept {w w' : World} (h : Env w) (k : Kept w w') : Env w' := by
  obtain ⟨⟨h1, h2⟩, ev, h3, h4⟩ := h
  exact ⟨⟨fun c hc => k.yes (h1 c hc), fun i hi => ⟨k.yes (h2 i hi).1, k.yes (h2 i hi).2⟩⟩, ev, k.yes h3, h4⟩
set_option maxRecDepth 100000 in
theorem parse_any (base : Int) (hb : base = 10 ∨ base = 16) (l : List UInt8) (w : World) (hI : Env w) (hl : l.length ≤ if base = 10 then 9 else 8) : Calls Tryz.prog 287 #[.string ⟨l.toArray⟩, .int .i64 base, .int .i64 32] w fun e w' => PuP (num base l) e ∧ Kept w w' := by
  have HP := Lib.hid (pu_any base hb l w hl)
  have hl2 : l.length ≤ 9 := by split at hl <;> omega
  clear hb hl
  generalize num base l = n at *
  go_enter Tryz.func287, Tryz.ntmps287
  go_wp2_with fail
  refine HP.out.mono ?_
  rintro e w1 ⟨rfl, k1⟩
  cases n with
  | some a =>
    unfold puT
    go_wp2
    go_ret2
    exact ⟨rfl, k1⟩
  | none =>
    obtain ⟨_, ev, h3, h4⟩ := hI.kept k1
    unfold puT
    go_wp2_with fail
    refine (Tryz.strconv_toError_syntax _ ⟨l.toArray⟩ base 32 ev _ (by show l.toArray.size ≤ _; rw [List.size_toArray]; omega) h3 h4).mono ?_
    rintro e w2 ⟨N, rfl, _, _, b2⟩
    have k2 := k1.trans (Kept.of_below b2)
    go_wp2
    go_ret2
    exact ⟨⟨N, rfl⟩, k2⟩
set_option maxRecDepth 100000 in
theorem rnS_eq (n : Int) : rnS n = (rn n).getD [] ∧ okN n = (rn n).isSome := by
  unfold rnS rn
  cases okN n <;> exact ⟨rfl, rfl⟩
set_option maxRecDepth 100000 in
theorem numbered_any (base : Int) (hb : base = 10 ∨ base = 16) (l : List UInt8) (w : World) (hI : Env w) (hl : l.length ≤ if base = 10 then 9 else 8) :
    Calls Tryz.prog 281 #[.string ⟨l.toArray⟩, .int .i64 base] w fun e w' => e = .returned (.tuple #[.string ⟨(((num base l).bind rn).getD []).toArray⟩, .bool ((num base l).bind rn).isSome]) ∧ Kept w w' := by
  have HP := Lib.hid (parse_any base hb l w hI hl)
  have hbd := fun n h => num_lo hb hl (n := n) h
  clear hb hl hI
  generalize num base l = n at *
  go_enter Tryz.func281, Tryz.ntmps281
  go_wp2_with fail
  refine HP.out.mono ?_
  rintro e w1 ⟨he, k1⟩
  cases n with
  | some a =>
    have hr := hbd a rfl
    have hcv : ∀ W : World, (convert 161 3 (.int .u64 a)).run Tryz.prog W = .ok (.int .i64 a) W := fun W => by
      rw [run_convert_int W _ _ .u64 a (by rw [Tryz.underlying161]; rfl) Tryz.underlying3, show Tryz.prog.intKind 3 = .i64 by kernel_rfl, IntKind.wrap_i64, show (a + 9223372036854775808) % 18446744073709551616 - 9223372036854775808 = a by omega]
    obtain rfl := he
    clear hbd
    go_wp2_with fail
    refine (rune_any a _ (by omega) (by omega)).mono ?_
    rintro e w2 ⟨rfl, rfl⟩
    have hq := Lib.hid (rnS_eq a)
    go_wp2
    go_ret2
    exact ⟨by rw [hq.out.1, hq.out.2]; rfl, k1⟩
  | none =>
    obtain ⟨N, rfl⟩ := he
    clear hbd
    go_wp2
    go_ret2
    exact ⟨rfl, k1⟩
set_option maxRecDepth 100000 in
theorem cutp (b p : List UInt8) (w : World) : Calls Tryz.prog 190 #[.string ⟨b.toArray⟩, .string ⟨p.toArray⟩] w fun e w' => e = .returned (.tuple #[.string ⟨(Lib.trimPrefix b p).toArray⟩, .bool (Lib.hasPrefix b p)]) ∧ w = w' :=
  (Tryz.strings_CutPrefix ⟨b.toArray⟩ ⟨p.toArray⟩ w).mono fun e w' ⟨h1, h2⟩ => ⟨h1, h2.symm⟩
set_option maxRecDepth 100000 in
theorem cutx (r : List UInt8) (w : World) : Calls Tryz.prog 190 #[.string ⟨(35 :: 120 :: r).toArray⟩, .string ⟨#[35, 120]⟩] w fun e w' => e = .returned (.tuple #[.string ⟨r.toArray⟩, .bool true]) ∧ w = w' :=
  (cutp (35 :: 120 :: r) [35, 120] w).mono fun e w' ⟨h1, h2⟩ => ⟨by rw [h1]; simp [Lib.trimPrefix, Lib.hasPrefix, List.isPrefixOf], h2⟩
set_option maxRecDepth 100000 in
theorem cuth (r : List UInt8) (w : World) : Calls Tryz.prog 190 #[.string ⟨(35 :: r).toArray⟩, .string ⟨#[35]⟩] w fun e w' => e = .returned (.tuple #[.string ⟨r.toArray⟩, .bool true]) ∧ w = w' :=
  (cutp (35 :: r) [35] w).mono fun e w' ⟨h1, h2⟩ => ⟨by rw [h1]; simp [Lib.trimPrefix, Lib.hasPrefix, List.isPrefixOf], h2⟩
set_option maxRecDepth 100000 in
theorem cutn (b : List UInt8) (p : List UInt8) (h : p.isPrefixOf b = false) (w : World) : Calls Tryz.prog 190 #[.string ⟨b.toArray⟩, .string ⟨p.toArray⟩] w fun e w' => e = .returned (.tuple #[.string ⟨b.toArray⟩, .bool false]) ∧ w = w' :=
  (cutp b p w).mono fun e w' ⟨h1, h2⟩ => ⟨by rw [h1]; simp [Lib.trimPrefix, Lib.hasPrefix, h], h2⟩
set_option maxRecDepth 100000 in
theorem named_k (w : World) : Kept w (w.alloc (.map es5 5)) := (Kept.refl w).alloc _
set_option maxRecDepth 100000 in
set_option maxHeartbeats 2000000 in
theorem signOf_any (b : List UInt8) (w : World) (hI : Env w) (hl : b.length ≤ 10) :
    Calls Tryz.prog 273 #[.string ⟨b.toArray⟩] w fun e w' => e = .returned (.tuple #[.string ⟨((sg b).getD []).toArray⟩, .bool (sg b).isSome]) ∧ Kept w w' := by
  have k1 := Lib.hid (named_k w)
  have lk := look5 (w.alloc (.map es5 5)) w.heap.size (MapKept.heap_alloc w (.map es5 5)).1 b
  have hI1 := Lib.hid (hI.kept k1.out)
  go_enter Tryz.func273, Tryz.ntmps273
  go_wp2_with fail
  refine (named_any _).mono ?_
  rintro e w1 ⟨rfl, hw1⟩
  rw [← hw1] at lk k1 hI1
  clear hw1
  cases hn : nmd b with
  | some n =>
    have hs := Lib.hid (sg_nmd b n hn)
    have hn1 := hs.out.2.2.2.1
    have hn2 := hs.out.2.2.2.2
    rw [hn] at lk
    clear hn
    go_wp2_with fail
    refine (rune_any n _ (by omega) (by omega)).mono ?_
    rintro e w2 ⟨rfl, rfl⟩
    go_wp2
    go_ret2
    exact ⟨by rw [hs.out.1, hs.out.2.1]; rfl, k1.out⟩
  | none =>
    have hs := Lib.hid (sg_rest b hn)
    rw [hn] at lk
    clear hn
    rcases (show (∃ r, b = 35 :: 120 :: r) ∨ (∃ r, b = 35 :: r ∧ ([35, 120] : List UInt8).isPrefixOf b = false ∧ ∀ r', b ≠ 35 :: 120 :: r') ∨ (([35, 120] : List UInt8).isPrefixOf b = false ∧ ([35] : List UInt8).isPrefixOf b = false ∧ ∀ r', b ≠ 35 :: r') by
      cases b with
      | nil => exact Or.inr (Or.inr ⟨rfl, rfl, fun r' h => by cases h⟩)
      | cons c r =>
        by_cases hc : c = 35
        · subst hc
          cases r with
          | nil => exact Or.inr (Or.inl ⟨[], rfl, rfl, fun r' h => by cases h⟩)
          | cons d r =>
            by_cases hd : d = 120
            · subst hd; exact Or.inl ⟨r, rfl⟩
            · refine Or.inr (Or.inl ⟨d :: r, rfl, ?_, fun r' h => ?_⟩)
              · simp [List.isPrefixOf]; exact fun h => hd h.symm
              · cases h; exact hd rfl
        · refine Or.inr (Or.inr ⟨?_, ?_, fun r' h => ?_⟩)
          · simp [List.isPrefixOf]; exact fun h => absurd h.symm hc
          · simp [List.isPrefixOf]; exact fun h => hc h.symm
          · cases h; exact hc rfl) with ⟨r, rfl⟩ | ⟨r, rfl, hp, hno⟩ | ⟨hp, hp2, hno⟩
    · have hr := Lib.hid (show sg (35 :: 120 :: r) = (num 16 r).bind rn from hs.out)
      simp only [List.length_cons] at hl
      go_wp2_with fail
      refine (cutx r _).mono ?_
      rintro e w2 ⟨rfl, rfl⟩
      go_wp2_with fail
      refine (numbered_any 16 (Or.inr rfl) r _ hI1.out (by rw [if_neg (by decide)]; omega)).mono ?_
      rintro e w3 ⟨rfl, k3⟩
      have k4 := k1.out.trans k3
      go_wp2
      go_ret2
      exact ⟨by rw [hr.out]; rfl, k4⟩
    · have hr := Lib.hid (show sg (35 :: r) = (num 10 r).bind rn from by
        rw [hs.out]
        cases r with
        | nil => rfl
        | cons d r =>
          by_cases hd : d = 120
          · subst hd; exact absurd rfl (hno r)
          · simp [sgR, hd])
      simp only [List.length_cons] at hl
      go_wp2_with fail
      refine (cutn (35 :: r) [35, 120] hp _).mono ?_
      rintro e w2 ⟨rfl, rfl⟩
      go_wp2_with fail
      refine (cuth r _).mono ?_
      rintro e w2 ⟨rfl, rfl⟩
      go_wp2_with fail
      refine (numbered_any 10 (Or.inl rfl) r _ hI1.out (by rw [if_pos rfl]; omega)).mono ?_
      rintro e w3 ⟨rfl, k3⟩
      have k4 := k1.out.trans k3
      go_wp2
      go_ret2
      exact ⟨by rw [hr.out]; rfl, k4⟩
    · have hr := Lib.hid (show sg b = none from by
        rw [hs.out]
        unfold sgR
        split
        · exact absurd rfl (hno _)
        · exact absurd rfl (hno _)
        · rfl)
      go_wp2_with fail
      refine (cutn b [35, 120] hp _).mono ?_
      rintro e w2 ⟨rfl, rfl⟩
      go_wp2_with fail
      refine (cutn b [35] hp2 _).mono ?_
      rintro e w2 ⟨rfl, rfl⟩
      go_wp2
      go_ret2
      exact ⟨by rw [hr.out]; rfl, k1.out⟩
theorem Bd.kept {B b : Nat} {l : List UInt8} {w w' : World} (h : Bd B b l w) (k : Kept w w') : Bd B b l w' := by
  have key : ∀ p, Lib.BuilderAtF 97 5 B b p (Lib.byteCells l) w → Lib.BuilderAtF 97 5 B b p (Lib.byteCells l) w' := fun p q => by
    obtain ⟨hB, v, hb, hown, hne⟩ := q
    exact ⟨hB, v, (k.block b (Array.getElem?_eq_some_iff.1 hb).1).trans hb, World.ownsRowF.kept hown (k.grownBy none) (by cases hv : v.ownBlock <;> simp), hne⟩
  exact h.elim (fun q => .inl (key _ q)) (fun q => .inr (key _ q))
theorem Wrote.iter {B b k p : Nat} {l : List UInt8} {w w' : World} {s : ByteArray} (h : Wrote B b l w w') (hk : w.heap[k]? = some (.stringIter s p)) (hne : k ≠ b) : w'.heap[k]? = some (.stringIter s p) := h.others.iter hk hne
def enR (l : List UInt8) : Value := match bo l with
  | none => .tuple #[.string ⟨#[]⟩, .string ⟨#[]⟩, .bool false]
  | some b => .tuple #[.string ⟨b.toArray⟩, .string ⟨((sg b).getD []).toArray⟩, .bool (sg b).isSome]
set_option maxRecDepth 100000 in
set_option maxHeartbeats 2000000 in
theorem entity_any (l : List UInt8) (w : World) (hI : Env w) (hl : l.length ≤ 2000000) : Calls Tryz.prog 255 #[.string ⟨l.toArray⟩] w fun e w' => e = .returned (enR l) ∧ Kept w w' := by
  go_enter Tryz.func255, Tryz.ntmps255
  go_wp2_with fail
  refine (bodyOf_any l _ hl).mono ?_
  rintro e w1 ⟨rfl, k1⟩
  cases hb : bo l with
  | none =>
    have HR := Lib.hid (show enR l = .tuple #[.string ⟨#[]⟩, .string ⟨#[]⟩, .bool false] by unfold enR; rw [hb])
    clear hb
    go_wp2
    refine bodyPost_ret (results_tmp3 rfl _ _ _) rfl ?_
    exact ⟨by rw [HR.out]; rfl, k1⟩
  | some b =>
    have HR := Lib.hid (show enR l = .tuple #[.string ⟨b.toArray⟩, .string ⟨((sg b).getD []).toArray⟩, .bool (sg b).isSome] by unfold enR; rw [hb])
    have hbl := (bo_len hb).1
    clear hb
    go_wp2_with fail
    refine (signOf_any b _ (hI.kept k1) hbl).mono ?_
    rintro e w2 ⟨rfl, k2⟩
    have k3 := k1.trans k2
    go_wp2
    refine bodyPost_ret (results_tmp3 rfl _ _ _) rfl ?_
    exact ⟨by rw [HR.out]; rfl, k3⟩
theorem en_none_of {l : List UInt8} (h : bo l = none) : en l = none := by
  unfold en
  rw [show bdF 11 [] l = none from h]; rfl
theorem en_none_of2 {l b : List UInt8} (h : bo l = some b) (h2 : sg b = none) : en l = none := by
  unfold en
  rw [show bdF 11 [] l = some b from h]; simp [h2]
set_option maxRecDepth 100000 in
set_option maxHeartbeats 4000000 in
theorem decoded_any (l : List UInt8) (w : World) (hI : Env w) (hl : l.length ≤ 2000000) : Calls Tryz.prog 220 #[.string ⟨l.toArray⟩] w fun e w' => e = .returned (.tuple #[.string ⟨(gone l).1.toArray⟩, .bool (gone l).2]) ∧ Kept w w' := by
  have hsz : (ByteArray.mk l.toArray).size = l.length := List.size_toArray
  have B0 := Lib.hid (bd_new w)
  have K0 := Lib.hid ((Below.refl w.heap.size w).alloc (Nat.le_refl _) (.cells #[.pointer none, .slice none 0 0] 97))
  go_enter Tryz.func220, Tryz.ntmps220
  go_wp2
  go_loopw [5, 6] (fun vw va wr => ∃ (p W : Nat) (al : Bool) (acc : List UInt8), vw = .int .i64 W ∧ va = .bool al ∧ Hid (Bd w.heap.size w.heap.size acc wr) ∧ wr.heap[w.heap.size + 1]? = some (.stringIter ⟨l.toArray⟩ p) ∧ Below w.heap.size w wr ∧ Hid (GoI l acc W p al)) (fun _ _ wr => l.length - wr.iterPos (w.heap.size + 1))
  case atStart =>
    refine ⟨0, 0, true, [], rfl, rfl, Lib.hid (B0.out.alloc _), ?_, K0.out.alloc (by simp) _, Lib.hid (GoI.start l)⟩
    have := World.iter_heap (w.alloc (.cells #[.pointer none, .slice none 0 0] 97)) ⟨l.toArray⟩ 0
    simpa using this
  case round =>
    obtain ⟨p, W, al, acc, rfl, rfl, hbd, hit, hb, hG⟩ := hrel
    have hwl := hG.out.wl
    have hpl := hG.out.pl
    have hsh := hG.out.short
    have hszr := hb.size
    by_cases hp : p < l.length
    · have hnx : ∀ ty, (Instr.next (.pointer (some ⟨w.heap.size + 1, 0, none⟩)) true ty).run Tryz.prog wr = _ := fun ty => Lib.run_next_any_at wr (w.heap.size + 1) ⟨l.toArray⟩ p ty hit (by rw [hsz]; exact hp)
      have hs := stp_of l p hp
      generalize Utf8.decode ⟨l.toArray⟩ p = d at hnx hs
      obtain ⟨r, k⟩ := d
      simp only at hnx hs
      have hit2 := Lib.iterAt_heap wr (w.heap.size + 1) ⟨l.toArray⟩ p (p + k) hit
      have hb2 := Lib.below_iterAt hb (k := w.heap.size + 1) (by omega) ⟨l.toArray⟩ (p + k)
      have hbd2 := Lib.hid (hbd.out.iterAt hit (p + k))
      have hmes : l.length - (p + k) < l.length - wr.iterPos (w.heap.size + 1) := by
        have := hs.pos
        simp only [World.iterPos, hit]; omega
      generalize wr.iterAt (w.heap.size + 1) ⟨l.toArray⟩ (p + k) = W2 at *
      have hlt := hs.pos
      have HS := Lib.hid hs
      clear hs hbd hb hit hszr
      by_cases h38 : r = 38
      · obtain ⟨hk1, hWp, _, _, hp1⟩ := hG.out.amp HS.out h38
        have hsl := cut_from l ((p : Int) + 1) (p + 1) (by omega) hp1
        have hdl : (l.drop (p + 1)).length ≤ 2000000 := by rw [List.length_drop]; omega
        have hcb := cut_both l W p hWp hpl
        have hgl : ((l.take p).drop W).length ≤ 2000000 := by rw [List.length_drop, List.length_take]; omega
        cases hbo : bo (l.drop (p + 1)) with
        | none =>
          have HN := Lib.hid (hG.out.stay HS.out h38 (en_none_of hbo))
          have HR := Lib.hid (show enR (l.drop (p + 1)) = .tuple #[.string ⟨#[]⟩, .string ⟨#[]⟩, .bool false] by unfold enR; rw [hbo])
          subst h38
          clear hbo
          go_wp2_with fail
          refine (entity_any (l.drop (p + 1)) _ (hI.kept (Kept.of_below hb2)) hdl).mono ?_
          rintro e w3 ⟨rfl, k3⟩
          rw [HR.out]
          have hit3 := (k3.block (w.heap.size + 1) (Array.getElem?_eq_some_iff.1 hit2).1).trans hit2
          go_wp2
          go_roundw
          case rel => exact ⟨p + k, W, false, acc, rfl, rfl, Lib.hid (Bd.kept hbd2.out k3), hit3, hb2.trans (k3.below hb2.size), HN⟩
          case measure =>
            simp only [World.iterPos, hit3]
            simp only [World.iterPos] at hmes
            omega
        | some b =>
          have hbl := (bo_len hbo).1
          cases hx : sg b with
          | none =>
            have HN := Lib.hid (hG.out.stay HS.out h38 (en_none_of2 hbo hx))
            have HR := Lib.hid (show enR (l.drop (p + 1)) = .tuple #[.string ⟨b.toArray⟩, .string ⟨#[]⟩, .bool false] by unfold enR; rw [hbo]; simp only [hx]; rfl)
            subst h38
            clear hbo hx
            go_wp2_with fail
            refine (entity_any (l.drop (p + 1)) _ (hI.kept (Kept.of_below hb2)) hdl).mono ?_
            rintro e w3 ⟨rfl, k3⟩
            rw [HR.out]
            have hit3 := (k3.block (w.heap.size + 1) (Array.getElem?_eq_some_iff.1 hit2).1).trans hit2
            go_wp2
            go_roundw
            case rel => exact ⟨p + k, W, false, acc, rfl, rfl, Lib.hid (Bd.kept hbd2.out k3), hit3, hb2.trans (k3.below hb2.size), HN⟩
            case measure =>
              simp only [World.iterPos, hit3]
              simp only [World.iterPos] at hmes
              omega
          | some x =>
            have HN := Lib.hid (hG.out.put HS.out h38 hbo hx)
            have hxl := sg_len hx
            have HR := Lib.hid (show enR (l.drop (p + 1)) = .tuple #[.string ⟨b.toArray⟩, .string ⟨x.toArray⟩, .bool true] by unfold enR; rw [hbo]; simp only [hx]; rfl)
            subst h38
            clear hbo hx
            have hbs : (ByteArray.mk b.toArray).size = b.length := List.size_toArray
            go_wp2_with fail
            refine (entity_any (l.drop (p + 1)) _ (hI.kept (Kept.of_below hb2)) hdl).mono ?_
            rintro e w3 ⟨rfl, k3⟩
            rw [HR.out]
            have hit3 := (k3.block (w.heap.size + 1) (Array.getElem?_eq_some_iff.1 hit2).1).trans hit2
            have hb3 := hb2.trans (k3.below hb2.size)
            have hbd3 := Lib.hid (Bd.kept hbd2.out k3)
            clear hbd2 hb2 k3 hit2
            generalize (l.take p).drop W = g at *
            go_wp2_with fail
            refine (wstr_any w.heap.size w.heap.size acc g _ hbd3.out (by omega) hb3.size).mono ?_
            rintro e w4 ⟨rfl, q4⟩
            have hit4 := q4.iter hit3 (by omega)
            have hb4 := hb3.trans q4.below
            have hbd4 := Lib.hid q4.bd
            clear hbd3 hb3 q4 hit3
            go_wp2_with fail
            refine (wstr_any w.heap.size w.heap.size (acc ++ g) x _ hbd4.out (by rw [List.length_append]; omega) hb4.size).mono ?_
            rintro e w5 ⟨rfl, q5⟩
            have hit5 := q5.iter hit4 (by omega)
            have hb5 := hb4.trans q5.below
            have hbd5 := Lib.hid q5.bd
            clear hbd4 hb4 q5 hit4
            go_wp2
            go_roundw
            case rel => exact ⟨p + k, p + 1 + b.length + 1, al, acc ++ g ++ x, by go_num, rfl, hbd5, hit5, hb5, HN⟩
            case measure =>
              simp only [World.iterPos, hit5]
              simp only [World.iterPos] at hmes
              omega
      · have HN := Lib.hid (hG.out.next HS.out h38)
        have c2 : ((r : Int) == 38) = false := by simp; omega
        go_wp2
        go_roundw
        case rel => exact ⟨p + k, W, al, acc, rfl, rfl, hbd2, hit2, hb2, HN⟩
        case measure =>
          simp only [World.iterPos, hit2]
          simp only [World.iterPos] at hmes
          omega
    · have hnx : ∀ ty, (Instr.next (.pointer (some ⟨w.heap.size + 1, 0, none⟩)) true ty).run Tryz.prog wr = _ := fun ty => Lib.run_next_end_at wr (w.heap.size + 1) ⟨l.toArray⟩ p ty hit (by rw [hsz]; exact hp)
      have HN := Lib.hid (hG.out.done hp)
      have hsl := cut_from l (W : Int) W rfl hwl
      have hdl : (l.drop W).length ≤ 2000000 := by rw [List.length_drop]; omega
      go_wp2_with fail
      refine (wstr_any w.heap.size w.heap.size acc (l.drop W) _ hbd.out (by omega) hszr).mono ?_
      rintro e w4 ⟨rfl, q4⟩
      have hb4 := hb.trans q4.below
      have hbd4 := Lib.hid q4.bd
      clear hbd q4 hb
      go_wp2_with fail
      refine (bstr_any w.heap.size w.heap.size (acc ++ l.drop W) _ hbd4.out hb4.size).mono ?_
      rintro e w5 ⟨rfl, b5⟩
      have k5 := Kept.of_below (hb4.trans b5)
      go_wp2
      go_ret2
      exact ⟨by rw [HN.out]; rfl, k5⟩
theorem loose_any (l : List UInt8) (w : World) (hI : Env w) (hl : l.length ≤ 2000000) : Calls Tryz.prog 164 #[.string ⟨l.toArray⟩] w fun e w' => e = .returned (.string ⟨(gone l).1.toArray⟩) ∧ Kept w w' := by
  go_enter Tryz.func164, Tryz.ntmps164
  go_wp2_with fail
  refine (decoded_any l _ hI hl).mono ?_
  rintro e w1 ⟨rfl, k1⟩
  go_wp2
  go_ret
  exact ⟨rfl, k1⟩
end Go.Proofs.YtjlpkgipdkjfhaaGreatDoor
