/- The laws of feeds: words, numbers, the chapter's example. -/
import Derived.Test.YtflhmgnhjnaiiaaGreatDoorFwA
import Derived.Test.YtflhmgnhjnaiiaaGreatDoorXwB
import Derived.Great.Walk
import Derived.Lib.SlBytesConst
set_option linter.unusedSimpArgs false
set_option linter.unusedVariables false
namespace Go.Proofs.YtflhmgnhjnaiiaaGreatDoor.Fd
open Go.ChangeShapes Go.WideShapes Go.ChangeAt Go.RowKit
open En Xm
def fexB : B := [60, 114, 115, 115, 62, 60, 99, 104, 97, 110, 110, 101, 108, 62, 60, 116, 105, 116, 108, 101, 62, 84, 60, 47, 116, 105, 116, 108, 101, 62, 60, 105, 116, 101, 109, 62, 60, 103, 117, 105, 100, 62, 49, 60, 47, 103, 117, 105, 100, 62, 60, 47, 105, 116, 101, 109, 62, 60, 47, 99, 104, 97, 110, 110, 101, 108, 62, 60, 47, 114, 115, 115, 62]
def fexC : Array Value := #[Value.int IntKind.u8 60, Value.int IntKind.u8 114, Value.int IntKind.u8 115, Value.int IntKind.u8 115, Value.int IntKind.u8 62, Value.int IntKind.u8 60, Value.int IntKind.u8 99, Value.int IntKind.u8 104, Value.int IntKind.u8 97, Value.int IntKind.u8 110, Value.int IntKind.u8 110, Value.int IntKind.u8 101, Value.int IntKind.u8 108, Value.int IntKind.u8 62, Value.int IntKind.u8 60, Value.int IntKind.u8 116, Value.int IntKind.u8 105, Value.int IntKind.u8 116, Value.int IntKind.u8 108, Value.int IntKind.u8 101, Value.int IntKind.u8 62, Value.int IntKind.u8 84, Value.int IntKind.u8 60, Value.int IntKind.u8 47, Value.int IntKind.u8 116, Value.int IntKind.u8 105, Value.int IntKind.u8 116, Value.int IntKind.u8 108, Value.int IntKind.u8 101, Value.int IntKind.u8 62, Value.int IntKind.u8 60, Value.int IntKind.u8 105, Value.int IntKind.u8 116, Value.int IntKind.u8 101, Value.int IntKind.u8 109, Value.int IntKind.u8 62, Value.int IntKind.u8 60, Value.int IntKind.u8 103, Value.int IntKind.u8 117, Value.int IntKind.u8 105, Value.int IntKind.u8 100, Value.int IntKind.u8 62, Value.int IntKind.u8 49, Value.int IntKind.u8 60, Value.int IntKind.u8 47, Value.int IntKind.u8 103, Value.int IntKind.u8 117, Value.int IntKind.u8 105, Value.int IntKind.u8 100, Value.int IntKind.u8 62, Value.int IntKind.u8 60, Value.int IntKind.u8 47, Value.int IntKind.u8 105, Value.int IntKind.u8 116, Value.int IntKind.u8 101, Value.int IntKind.u8 109, Value.int IntKind.u8 62, Value.int IntKind.u8 60, Value.int IntKind.u8 47, Value.int IntKind.u8 99, Value.int IntKind.u8 104, Value.int IntKind.u8 97, Value.int IntKind.u8 110, Value.int IntKind.u8 110, Value.int IntKind.u8 101, Value.int IntKind.u8 108, Value.int IntKind.u8 62, Value.int IntKind.u8 60, Value.int IntKind.u8 47, Value.int IntKind.u8 114, Value.int IntKind.u8 115, Value.int IntKind.u8 115, Value.int IntKind.u8 62]
def fexE : List Ent := [([49], [], [], [], 0)]
set_option maxRecDepth 100000 in
theorem fex_rd (ps : B → Option Int) : rdP ps fexB = (([84], fexE), 0) := by kernel_rfl
theorem fexC_eq : fexC = (fexB.map fun b => Value.int .u8 b.toNat).toArray := by kernel_rfl
/-- letters alone, few -/
def isW (s : B) : Bool := s.all (fun c => decide (97 ≤ c.toNat) && decide (c.toNat ≤ 122)) && decide (s.length ≤ 40)
theorem isW_iff {s : B} : isW s = true ↔ (∀ c ∈ s, 97 ≤ c.toNat ∧ c.toNat ≤ 122) ∧ s.length ≤ 40 := by
  unfold isW
  simp only [Bool.and_eq_true, List.all_eq_true, decide_eq_true_eq]
set_option maxRecDepth 100000 in
set_option maxHeartbeats 1000000 in
theorem word_any (s : B) (w : World) (hl : s.length ≤ maxLen) : Calls Tryz.prog 8 #[sV s] w fun e w' => e = .returned (.bool (isW s)) ∧ w = w' := by
  unfold maxLen at hl
  have HW := Lib.hid (show isW s = true ↔ (∀ c ∈ s, 97 ≤ c.toNat ∧ c.toNat ≤ 122) ∧ s.length ≤ 40 from isW_iff)
  have hsz : (ByteArray.mk s.toArray).size = s.length := List.size_toArray
  generalize isW s = q at *
  go_enter Tryz.func8, Tryz.ntmps8
  go_wp2_with fail
  go_loopw [3] (fun vi wr => ∃ i : Nat, i ≤ s.length ∧ vi = .int .i64 i ∧ w = wr ∧ Hid (∀ c ∈ s.take i, 97 ≤ c.toNat ∧ c.toNat ≤ 122)) (fun vi _ => s.length - (intOf vi).toNat)
  case atStart => exact ⟨0, Nat.zero_le _, rfl, rfl, Lib.hid (by simp)⟩
  case round =>
    obtain ⟨i, hi, rfl, rfl, hT⟩ := hrel
    by_cases hlt : i < s.length
    · have hltI : (i : Int) < s.length := by omega
      obtain ⟨u, hu⟩ : ∃ u, s[i]? = some u := ⟨_, List.getElem?_eq_getElem hlt⟩
      have HU := Lib.hid hu
      have hget : (ByteArray.mk s.toArray)[i]'(by rw [hsz]; exact hlt) = u := by
        have := List.getElem?_eq_some_iff.1 hu
        exact this.2
      by_cases h1 : u.toNat < 97
      · have hq := Lib.hid (show q = false by
          rw [Bool.eq_false_iff]
          intro e
          have := (HW.out.1 e).1 u (List.mem_of_getElem? HU.out)
          omega)
        clear hT
        go_wp2
        go_ret
        exact ⟨by rw [hq.out]; rfl, rfl⟩
      · by_cases h2 : 122 < u.toNat
        · have hq := Lib.hid (show q = false by
            rw [Bool.eq_false_iff]
            intro e
            have := (HW.out.1 e).1 u (List.mem_of_getElem? HU.out)
            omega)
          clear hT
          go_wp2
          go_ret
          exact ⟨by rw [hq.out]; rfl, rfl⟩
        · have HN : Hid (∀ c ∈ s.take (i + 1), 97 ≤ c.toNat ∧ c.toNat ≤ 122) := Lib.hid (fun c hc => by
            rw [List.take_add_one, HU.out] at hc
            rcases List.mem_append.1 hc with hc | hc
            · exact hT.out c hc
            · simp at hc; subst hc; omega)
          clear hT
          go_wp2
          go_roundw
          case rel => exact ⟨i + 1, hlt, by go_num, trivial, HN⟩
          case measure => simp [intOf]; omega
    · have hltI : ¬ (i : Int) < s.length := by omega
      have hq := Lib.hid (show q = decide ((s.length : Int) ≤ 40) by
        rw [Bool.eq_iff_iff, HW.out, decide_eq_true_eq]
        have := hT.out
        rw [List.take_of_length_le (by omega)] at this
        exact ⟨fun e => by have := e.2; omega, fun e => ⟨this, by omega⟩⟩)
      clear hT
      go_wp2
      go_ret
      exact ⟨by rw [hq.out]; rfl, rfl⟩
theorem ext_one : ∀ k : Fin 10, (([48, 49, 50, 51, 52, 53, 54, 55, 56, 57] : B).take (k.val + 1)).drop k.val = [UInt8.ofNat (48 + k.val)] := by decide
def num3 (i : Nat) : B := [UInt8.ofNat (48 + i / 100), UInt8.ofNat (48 + i / 10 % 10), UInt8.ofNat (48 + i % 10)]
set_option maxRecDepth 100000 in
set_option maxHeartbeats 1000000 in
theorem number_any (k : Nat) (h : k < 1000) (w : World) : Calls Tryz.prog 11 #[.int .i64 k] w fun e w' => e = .returned (sV (num3 k)) ∧ Kept w w' := by
  have hx1 := ext_one ⟨k / 100, by omega⟩
  have hx2 := ext_one ⟨k / 10 % 10, by omega⟩
  have hx3 := ext_one ⟨k % 10, by omega⟩
  have HD := Lib.hid (show num3 k = ([UInt8.ofNat (48 + k / 100)] ++ [UInt8.ofNat (48 + k / 10 % 10)]) ++ [UInt8.ofNat (48 + k % 10)] from rfl)
  simp only at hx1 hx2 hx3
  generalize num3 k = r at *
  generalize UInt8.ofNat (48 + k / 100) = a at *
  generalize UInt8.ofNat (48 + k / 10 % 10) = b at *
  generalize UInt8.ofNat (48 + k % 10) = c at *
  have w1 : IntKind.i64.wrap ((k : Int) / 100) = (k : Int) / 100 := by simp only [IntKind.wrap_i64]; omega
  have w2 : IntKind.i64.wrap ((k : Int) / 100 + 1) = (k : Int) / 100 + 1 := by simp only [IntKind.wrap_i64]; omega
  have w3 : IntKind.i64.wrap ((k : Int) / 10) = (k : Int) / 10 := by simp only [IntKind.wrap_i64]; omega
  have w4 : IntKind.i64.wrap ((k : Int) / 10 % 10) = (k : Int) / 10 % 10 := by simp only [IntKind.wrap_i64]; omega
  have w5 : IntKind.i64.wrap ((k : Int) / 10 % 10 + 1) = (k : Int) / 10 % 10 + 1 := by simp only [IntKind.wrap_i64]; omega
  have w6 : IntKind.i64.wrap ((k : Int) % 10) = (k : Int) % 10 := by simp only [IntKind.wrap_i64]; omega
  have w7 : IntKind.i64.wrap ((k : Int) % 10 + 1) = (k : Int) % 10 + 1 := by simp only [IntKind.wrap_i64]; omega
  have m1 : ((k : Int) / 10).tmod 10 = (k : Int) / 10 % 10 := Int.tmod_eq_emod_of_nonneg (by omega)
  have m2 : (k : Int).tmod 10 = (k : Int) % 10 := Int.tmod_eq_emod_of_nonneg (by omega)
  have s1 : ∀ W : World, (Instr.slice 9 (.string ⟨#[48, 49, 50, 51, 52, 53, 54, 55, 56, 57]⟩) (some (.int .i64 ((k : Int) / 100))) (some (.int .i64 ((k : Int) / 100 + 1))) none).run Tryz.prog W = .ok (.string ⟨[a].toArray⟩) W := fun W => by
    have q := cut_both [48, 49, 50, 51, 52, 53, 54, 55, 56, 57] (k / 100) (k / 100 + 1) (by omega) (by show _ ≤ 10; omega) W
    rw [show ((k / 100 : Nat) : Int) = (k : Int) / 100 by omega, show ((k / 100 + 1 : Nat) : Int) = (k : Int) / 100 + 1 by omega] at q
    rw [hx1] at q
    exact q
  have s2 : ∀ W : World, (Instr.slice 9 (.string ⟨#[48, 49, 50, 51, 52, 53, 54, 55, 56, 57]⟩) (some (.int .i64 ((k : Int) / 10 % 10))) (some (.int .i64 ((k : Int) / 10 % 10 + 1))) none).run Tryz.prog W = .ok (.string ⟨[b].toArray⟩) W := fun W => by
    have q := cut_both [48, 49, 50, 51, 52, 53, 54, 55, 56, 57] (k / 10 % 10) (k / 10 % 10 + 1) (by omega) (by show _ ≤ 10; omega) W
    rw [show ((k / 10 % 10 : Nat) : Int) = (k : Int) / 10 % 10 by omega, show ((k / 10 % 10 + 1 : Nat) : Int) = (k : Int) / 10 % 10 + 1 by omega] at q
    rw [hx2] at q
    exact q
  have s3 : ∀ W : World, (Instr.slice 9 (.string ⟨#[48, 49, 50, 51, 52, 53, 54, 55, 56, 57]⟩) (some (.int .i64 ((k : Int) % 10))) (some (.int .i64 ((k : Int) % 10 + 1))) none).run Tryz.prog W = .ok (.string ⟨[c].toArray⟩) W := fun W => by
    have q := cut_both [48, 49, 50, 51, 52, 53, 54, 55, 56, 57] (k % 10) (k % 10 + 1) (by omega) (by show _ ≤ 10; omega) W
    rw [show ((k % 10 : Nat) : Int) = (k : Int) % 10 by omega, show ((k % 10 + 1 : Nat) : Int) = (k : Int) % 10 + 1 by omega] at q
    rw [hx3] at q
    exact q
  clear hx1 hx2 hx3
  go_enter Tryz.func11, Tryz.ntmps11
  go_wp2_with fail
  go_quiet (fail)
  go_wp2
  go_ret
  refine ⟨?_, (Kept.refl w).drewN nq⟩
  rw [HD.out]
  show Ending.returned (Value.string (⟨#[a]⟩ ++ ⟨#[b]⟩ ++ ⟨#[c]⟩)) = _
  rw [ByteArray.mk_append_mk, ByteArray.mk_append_mk]
theorem en_new (w : World) (e : Ent) : EnRd (.slice (some ⟨w.heap.size, 0, none⟩) 1 1) [e] (w.alloc (.cells (e5 e) 32)) := by
  refine ⟨_, _, rfl, fun _ => ⟨_, _, rfl, Nat.le_refl _, fun i e' he => ?_⟩⟩
  match i, he with
  | 0, he =>
    cases he
    have h := Eb.new w e
    exact h.cells
theorem tk_one (w : World) (s : B) : TkRd (.slice (some ⟨w.heap.size, 0, none⟩) 1 1) [tX s] (w.alloc (.cells #[iV 2, sV [], sV s, .slice none 0 0] 43)) := by
  refine ⟨_, _, rfl, fun _ => ⟨_, _, rfl, Nat.le_refl _, fun i t' ht => ?_⟩⟩
  match i, ht with
  | 0, ht =>
    cases ht
    have h := World.alloc_heap_new w (.cells #[iV 2, sV [], sV s, .slice none 0 0] 43)
    exact ⟨_, cell_at h rfl, cell_at h rfl, cell_at h rfl, cell_at h rfl, at_nil _⟩
set_option maxRecDepth 100000 in
set_option maxHeartbeats 4000000 in
theorem fawake_any (w : World) (hE : EX w.heap.size w) : Calls Tryz.prog 7 #[] w fun e w' => e = .returned (.bool true) ∧ Kept w w' := by
  go_enter Tryz.func7, Tryz.ntmps7
  go_wp2_with fail
  rw [Lib.run_convert_bytes_const w 30 5 _ 73 73 Tryz.underlying30 Tryz.underlying5]
  have hB := Lib.hid (brd_new w fexB 5 fexC fexC_eq 73 (by decide) (73, 74))
  have K1 := Lib.hid ((Kept.refl w).alloc (.cells fexC 5 (73, 74)))
  rw [show w.alloc (.cells #[Value.int IntKind.u8 60, Value.int IntKind.u8 114, Value.int IntKind.u8 115, Value.int IntKind.u8 115, Value.int IntKind.u8 62, Value.int IntKind.u8 60, Value.int IntKind.u8 99, Value.int IntKind.u8 104, Value.int IntKind.u8 97, Value.int IntKind.u8 110, Value.int IntKind.u8 110, Value.int IntKind.u8 101, Value.int IntKind.u8 108, Value.int IntKind.u8 62, Value.int IntKind.u8 60, Value.int IntKind.u8 116, Value.int IntKind.u8 105, Value.int IntKind.u8 116, Value.int IntKind.u8 108, Value.int IntKind.u8 101, Value.int IntKind.u8 62, Value.int IntKind.u8 84, Value.int IntKind.u8 60, Value.int IntKind.u8 47, Value.int IntKind.u8 116, Value.int IntKind.u8 105, Value.int IntKind.u8 116, Value.int IntKind.u8 108, Value.int IntKind.u8 101, Value.int IntKind.u8 62, Value.int IntKind.u8 60, Value.int IntKind.u8 105, Value.int IntKind.u8 116, Value.int IntKind.u8 101, Value.int IntKind.u8 109, Value.int IntKind.u8 62, Value.int IntKind.u8 60, Value.int IntKind.u8 103, Value.int IntKind.u8 117, Value.int IntKind.u8 105, Value.int IntKind.u8 100, Value.int IntKind.u8 62, Value.int IntKind.u8 49, Value.int IntKind.u8 60, Value.int IntKind.u8 47, Value.int IntKind.u8 103, Value.int IntKind.u8 117, Value.int IntKind.u8 105, Value.int IntKind.u8 100, Value.int IntKind.u8 62, Value.int IntKind.u8 60, Value.int IntKind.u8 47, Value.int IntKind.u8 105, Value.int IntKind.u8 116, Value.int IntKind.u8 101, Value.int IntKind.u8 109, Value.int IntKind.u8 62, Value.int IntKind.u8 60, Value.int IntKind.u8 47, Value.int IntKind.u8 99, Value.int IntKind.u8 104, Value.int IntKind.u8 97, Value.int IntKind.u8 110, Value.int IntKind.u8 110, Value.int IntKind.u8 101, Value.int IntKind.u8 108, Value.int IntKind.u8 62, Value.int IntKind.u8 60, Value.int IntKind.u8 47, Value.int IntKind.u8 114, Value.int IntKind.u8 115, Value.int IntKind.u8 115, Value.int IntKind.u8 62] 5 (Array.size #[Value.int IntKind.u8 60, Value.int IntKind.u8 114, Value.int IntKind.u8 115, Value.int IntKind.u8 115, Value.int IntKind.u8 62, Value.int IntKind.u8 60, Value.int IntKind.u8 99, Value.int IntKind.u8 104, Value.int IntKind.u8 97, Value.int IntKind.u8 110, Value.int IntKind.u8 110, Value.int IntKind.u8 101, Value.int IntKind.u8 108, Value.int IntKind.u8 62, Value.int IntKind.u8 60, Value.int IntKind.u8 116, Value.int IntKind.u8 105, Value.int IntKind.u8 116, Value.int IntKind.u8 108, Value.int IntKind.u8 101, Value.int IntKind.u8 62, Value.int IntKind.u8 84, Value.int IntKind.u8 60, Value.int IntKind.u8 47, Value.int IntKind.u8 116, Value.int IntKind.u8 105, Value.int IntKind.u8 116, Value.int IntKind.u8 108, Value.int IntKind.u8 101, Value.int IntKind.u8 62, Value.int IntKind.u8 60, Value.int IntKind.u8 105, Value.int IntKind.u8 116, Value.int IntKind.u8 101, Value.int IntKind.u8 109, Value.int IntKind.u8 62, Value.int IntKind.u8 60, Value.int IntKind.u8 103, Value.int IntKind.u8 117, Value.int IntKind.u8 105, Value.int IntKind.u8 100, Value.int IntKind.u8 62, Value.int IntKind.u8 49, Value.int IntKind.u8 60, Value.int IntKind.u8 47, Value.int IntKind.u8 103, Value.int IntKind.u8 117, Value.int IntKind.u8 105, Value.int IntKind.u8 100, Value.int IntKind.u8 62, Value.int IntKind.u8 60, Value.int IntKind.u8 47, Value.int IntKind.u8 105, Value.int IntKind.u8 116, Value.int IntKind.u8 101, Value.int IntKind.u8 109, Value.int IntKind.u8 62, Value.int IntKind.u8 60, Value.int IntKind.u8 47, Value.int IntKind.u8 99, Value.int IntKind.u8 104, Value.int IntKind.u8 97, Value.int IntKind.u8 110, Value.int IntKind.u8 110, Value.int IntKind.u8 101, Value.int IntKind.u8 108, Value.int IntKind.u8 62, Value.int IntKind.u8 60, Value.int IntKind.u8 47, Value.int IntKind.u8 114, Value.int IntKind.u8 115, Value.int IntKind.u8 115, Value.int IntKind.u8 62], Array.size #[Value.int IntKind.u8 60, Value.int IntKind.u8 114, Value.int IntKind.u8 115, Value.int IntKind.u8 115, Value.int IntKind.u8 62, Value.int IntKind.u8 60, Value.int IntKind.u8 99, Value.int IntKind.u8 104, Value.int IntKind.u8 97, Value.int IntKind.u8 110, Value.int IntKind.u8 110, Value.int IntKind.u8 101, Value.int IntKind.u8 108, Value.int IntKind.u8 62, Value.int IntKind.u8 60, Value.int IntKind.u8 116, Value.int IntKind.u8 105, Value.int IntKind.u8 116, Value.int IntKind.u8 108, Value.int IntKind.u8 101, Value.int IntKind.u8 62, Value.int IntKind.u8 84, Value.int IntKind.u8 60, Value.int IntKind.u8 47, Value.int IntKind.u8 116, Value.int IntKind.u8 105, Value.int IntKind.u8 116, Value.int IntKind.u8 108, Value.int IntKind.u8 101, Value.int IntKind.u8 62, Value.int IntKind.u8 60, Value.int IntKind.u8 105, Value.int IntKind.u8 116, Value.int IntKind.u8 101, Value.int IntKind.u8 109, Value.int IntKind.u8 62, Value.int IntKind.u8 60, Value.int IntKind.u8 103, Value.int IntKind.u8 117, Value.int IntKind.u8 105, Value.int IntKind.u8 100, Value.int IntKind.u8 62, Value.int IntKind.u8 49, Value.int IntKind.u8 60, Value.int IntKind.u8 47, Value.int IntKind.u8 103, Value.int IntKind.u8 117, Value.int IntKind.u8 105, Value.int IntKind.u8 100, Value.int IntKind.u8 62, Value.int IntKind.u8 60, Value.int IntKind.u8 47, Value.int IntKind.u8 105, Value.int IntKind.u8 116, Value.int IntKind.u8 101, Value.int IntKind.u8 109, Value.int IntKind.u8 62, Value.int IntKind.u8 60, Value.int IntKind.u8 47, Value.int IntKind.u8 99, Value.int IntKind.u8 104, Value.int IntKind.u8 97, Value.int IntKind.u8 110, Value.int IntKind.u8 110, Value.int IntKind.u8 101, Value.int IntKind.u8 108, Value.int IntKind.u8 62, Value.int IntKind.u8 60, Value.int IntKind.u8 47, Value.int IntKind.u8 114, Value.int IntKind.u8 115, Value.int IntKind.u8 115, Value.int IntKind.u8 62] + 1)) = w.alloc (.cells fexC 5 (73, 74)) from rfl]
  generalize fexC = ec at *
  generalize w.alloc (.cells ec 5 (73, 74)) = x at *
  simp only [Result.andThen]
  rw [Oper.upon_value]
  have T := Lib.hid (fread_any (some ⟨w.heap.size, 0, none⟩) 73 73 fexB x (hE.kept K1.out |>.mono K1.out.size) rfl (by decide) (fun y ky => (hB.out.kept ky).conv))
  rw [fex_rd] at T
  go_wp2_with fail
  refine T.out.mono ?_
  rintro e x1 ⟨k1, v, rfl, hO⟩
  have K2 := Lib.hid (K1.out.trans k1)
  have hV := Lib.hid hO.rd
  obtain ⟨a1, c1, hv⟩ := hO.slice
  subst hv
  clear hO T hB K1 k1
  rw [show (([84], fexE) : Fee).2.length = 1 from rfl] at hV ⊢
  have k2 := (Kept.refl x1).alloc (.cells #[sV [84], .slice a1 1 c1] 26)
  have F2 := Lib.hid (show Fb x1.heap.size [84] (.slice a1 1 c1) (x1.alloc (.cells #[sV [84], .slice a1 1 c1] 26)) from World.alloc_heap_new x1 _)
  have V2 := Lib.hid (hV.out.kept k2)
  have K3 := Lib.hid (K2.out.trans k2)
  clear hV K2
  go_upto_region 2 with (fail)
  generalize hb : x1.heap.size = b at *
  rw [show x1.alloc (.cells #[.string ⟨#[84]⟩, .slice a1 1 c1] 26) = x1.alloc (.cells #[sV [84], .slice a1 1 c1] 26) from rfl]
  generalize x1.alloc (.cells #[sV [84], .slice a1 1 c1] 26) = x2 at *
  clear hb k2
  obtain ⟨c0, d0⟩ := F2.out.cells
  have NV := Lib.hid (en_new x2 ([49], [], [], [], 0))
  have k3 := (Kept.refl x2).alloc (.cells (e5 ([49], [], [], [], 0)) 32)
  have V3 := Lib.hid (V2.out.kept k3)
  have K4 := Lib.hid (K3.out.trans k3)
  clear V2 K3 F2 x1
  go_wp2_with fail
  rw [show x2.alloc (.cells #[.string ⟨#[49]⟩, .string ⟨#[]⟩, .string ⟨#[]⟩, .string ⟨#[]⟩, .int .i64 0] 32) = x2.alloc (.cells (e5 ([49], [], [], [], 0)) 32) from rfl]
  refine Calls.mono (R := FsP ([84], fexE) ([84], fexE) _) (fsame_any [84] [84] fexE fexE _ _ _ V3.out NV.out (by decide) (by decide)) ?_
  rintro e x3 ⟨rfl, k4⟩
  rw [decide_eq_true rfl]
  have K5 := Lib.hid (K4.out.trans k4)
  clear V3 NV K4 k4 k3 c0 d0
  have HV := Lib.hid (value_any _ [tX [32, 97, 32]] _ (tk_one x3 [32, 97, 32]) (hE.1.kept (K5.out.trans ((Kept.refl x3).alloc (.cells #[iV 2, sV [], sV [32, 97, 32], .slice none 0 0] 43)))) (by unfold Fw; simp [tX]) (by simp [txs, tX]))
  rw [show val [tX [32, 97, 32]] = [97] from by decide +kernel] at HV
  go_wp2_with fail
  refine HV.out.mono ?_
  rintro e x4 ⟨rfl, k5⟩
  have K6 := Lib.hid ((K5.out.trans ((Kept.refl x3).alloc (.cells #[iV 2, sV [], sV [32, 97, 32], .slice none 0 0] 43))).trans k5)
  clear K5 k5 HV
  go_wp2_with fail
  go_ret
  exact ⟨rfl, K6.out⟩
end Go.Proofs.YtflhmgnhjnaiiaaGreatDoor.Fd
