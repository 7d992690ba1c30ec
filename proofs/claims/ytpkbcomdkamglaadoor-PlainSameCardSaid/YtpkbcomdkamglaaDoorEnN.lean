/- The names of entities, a map of five; the sign of a body. -/
import Derived.Test.YtpkbcomdkamglaaDoorEnPu
import Derived.Carry
import Derived.MapKept
set_option linter.unusedSimpArgs false
set_option linter.unusedVariables false
namespace Go.Proofs.YtpkbcomdkamglaaDoor
open Go.ChangeShapes Go.WideShapes Go.ChangeAt Go.RowKit
open En
theorem set_push (a : Array Obj) (x y : Obj) : (a.push x).setIfInBounds a.size y = a.push y := by
  apply Array.ext_getElem?
  intro i
  rw [Array.getElem?_setIfInBounds, Array.getElem?_push, Array.getElem?_push]
  by_cases h : a.size = i
  · subst h; simp
  · rw [if_neg h, if_neg (fun e => h e.symm), if_neg (fun e => h e.symm)]
theorem run_ins (w : World) (es : Array MapEntry) (c : Nat) (s : ByteArray) (v : Value) (hf : Instr.findNow .string (.string s) es.toList 0 = some none) :
    (Instr.mapUpdate 80 (.map (some w.heap.size)) (.string s) v).run Tryd.prog (w.alloc (.map es c)) = .ok () (w.alloc (.map (es.push { key := .string s, val := v, born := c }) (c + 1))) := by
  have hb := (MapKept.heap_alloc w (.map es c)).1
  unfold Instr.mapUpdate
  simp only [Sem.run_bind, run_underlying Tryd.underlying80, Result.andThen, MapKept.run_getObj_map hb]
  rw [MapKept.run_checkKey Tryd.underlying9 (by simp [MapKept.IsKey]) false 9999]
  simp only [MapKept.run_findKey Tryd.underlying9 hf]
  rw [MapKept.run_setObj_map _ hb]
  congr 1
  show ({ w with heap := (w.heap.push _).setIfInBounds w.heap.size _ } : World) = { w with heap := w.heap.push _ }
  rw [set_push]
def es5 : Array MapEntry := #[{ key := .string ⟨#[97, 109, 112]⟩, val := .int .i64 38, born := 0 }, { key := .string ⟨#[108, 116]⟩, val := .int .i64 60, born := 1 }, { key := .string ⟨#[103, 116]⟩, val := .int .i64 62, born := 2 }, { key := .string ⟨#[113, 117, 111, 116]⟩, val := .int .i64 34, born := 3 }, { key := .string ⟨#[97, 112, 111, 115]⟩, val := .int .i64 39, born := 4 }]
theorem named_any (w : World) : Calls Tryd.prog 58 #[] w fun e w' => e = .returned (.map (some w.heap.size)) ∧ w' = w.alloc (.map es5 5) := by
  have hmm := @run_makeMap Tryd.prog
  have h1 := run_ins w #[] 0 ⟨#[97, 109, 112]⟩ (.int .i64 38) rfl
  have h2 := run_ins w #[{ key := .string ⟨#[97, 109, 112]⟩, val := .int .i64 38, born := 0 }] 1 ⟨#[108, 116]⟩ (.int .i64 60) rfl
  have h3 := run_ins w #[{ key := .string ⟨#[97, 109, 112]⟩, val := .int .i64 38, born := 0 }, { key := .string ⟨#[108, 116]⟩, val := .int .i64 60, born := 1 }] 2 ⟨#[103, 116]⟩ (.int .i64 62) rfl
  have h4 := run_ins w #[{ key := .string ⟨#[97, 109, 112]⟩, val := .int .i64 38, born := 0 }, { key := .string ⟨#[108, 116]⟩, val := .int .i64 60, born := 1 }, { key := .string ⟨#[103, 116]⟩, val := .int .i64 62, born := 2 }] 3 ⟨#[113, 117, 111, 116]⟩ (.int .i64 34) rfl
  have h5 := run_ins w #[{ key := .string ⟨#[97, 109, 112]⟩, val := .int .i64 38, born := 0 }, { key := .string ⟨#[108, 116]⟩, val := .int .i64 60, born := 1 }, { key := .string ⟨#[103, 116]⟩, val := .int .i64 62, born := 2 }, { key := .string ⟨#[113, 117, 111, 116]⟩, val := .int .i64 34, born := 3 }] 4 ⟨#[97, 112, 111, 115]⟩ (.int .i64 39) rfl
  simp only [List.push_toArray, List.cons_append, List.nil_append, Nat.reduceAdd] at h1 h2 h3 h4 h5
  go_enter Tryd.func58, Tryd.ntmps58
  go_wp2
  go_ret
  exact ⟨rfl, rfl⟩
def nmd (b : List UInt8) : Option Int :=
  if b = [97, 109, 112] then some 38 else if b = [108, 116] then some 60 else if b = [103, 116] then some 62
  else if b = [113, 117, 111, 116] then some 34 else if b = [97, 112, 111, 115] then some 39 else none
theorem ba_beq (a b : List UInt8) : ((ByteArray.mk a.toArray) == (ByteArray.mk b.toArray)) = decide (a = b) := by
  rw [Bool.eq_iff_iff, MapKept.bytes_beq, decide_eq_true_iff]
  constructor
  · intro e
    have := congrArg (fun z => z.data.toList) e
    simpa using this
  · intro e; rw [e]
theorem find5 (b : List UInt8) : ∃ r, Instr.findNow .string (.string ⟨b.toArray⟩) es5.toList 0 = some r ∧ r.map (·.2) = (nmd b).map (Value.int .i64 ·) := by
  unfold es5 nmd
  simp only [Instr.findNow, Instr.sameNow, ba_beq]
  by_cases e1 : b = [97, 109, 112]
  · exact ⟨_, by simp only [e1, decide_true]; rfl, by rw [if_pos e1]; rfl⟩
  rw [if_neg e1]
  simp only [e1, decide_false]
  by_cases e2 : b = [108, 116]
  · exact ⟨_, by simp only [e2, decide_true]; rfl, by rw [if_pos e2]; rfl⟩
  rw [if_neg e2]
  simp only [e2, decide_false]
  by_cases e3 : b = [103, 116]
  · exact ⟨_, by simp only [e3, decide_true]; rfl, by rw [if_pos e3]; rfl⟩
  rw [if_neg e3]
  simp only [e3, decide_false]
  by_cases e4 : b = [113, 117, 111, 116]
  · exact ⟨_, by simp only [e4, decide_true]; rfl, by rw [if_pos e4]; rfl⟩
  rw [if_neg e4]
  simp only [e4, decide_false]
  by_cases e5 : b = [97, 112, 111, 115]
  · exact ⟨_, by simp only [e5, decide_true]; rfl, by rw [if_pos e5]; rfl⟩
  rw [if_neg e5]
  simp only [e5, decide_false]
  exact ⟨none, rfl, rfl⟩
theorem look5 (w : World) (k : Nat) (hb : w.heap[k]? = some (.map es5 5)) (b : List UInt8) :
    (Instr.lookup 80 (.map (some k)) (.string ⟨b.toArray⟩) true).run Tryd.prog w = .ok (.tuple #[.int .i64 ((nmd b).getD 0), .bool (nmd b).isSome]) w := by
  obtain ⟨r, h1, h2⟩ := find5 b
  unfold Instr.lookup
  simp only [Sem.run_bind, run_underlying Tryd.underlying80, Result.andThen, MapKept.run_getObj_map hb, Sem.run_pure]
  rw [MapKept.run_checkKey Tryd.underlying9 (by simp [MapKept.IsKey]) _ 9999]
  simp only [MapKept.run_findKey Tryd.underlying9 h1]
  cases hn : nmd b with
  | none =>
    rw [hn] at h2
    cases r with
    | none => simp [Tryd.zeroValue3]
    | some p => cases h2
  | some n =>
    rw [hn] at h2
    cases r with
    | none => cases h2
    | some p =>
      obtain ⟨i, v⟩ := p
      simp only [Option.map_some, Option.some.injEq] at h2
      subst h2
      simp
theorem sg_nmd (b : List UInt8) (n : Int) (h : nmd b = some n) : (sg b).getD [] = rnS n ∧ (sg b).isSome = okN n ∧ okN n = true ∧ 0 ≤ n ∧ n ≤ 100 := by
  unfold nmd at h
  by_cases e1 : b = [97, 109, 112]
  · rw [if_pos e1] at h; cases h; subst e1; exact ⟨by decide, by decide, by decide, by decide, by decide⟩
  rw [if_neg e1] at h
  by_cases e2 : b = [108, 116]
  · rw [if_pos e2] at h; cases h; subst e2; exact ⟨by decide, by decide, by decide, by decide, by decide⟩
  rw [if_neg e2] at h
  by_cases e3 : b = [103, 116]
  · rw [if_pos e3] at h; cases h; subst e3; exact ⟨by decide, by decide, by decide, by decide, by decide⟩
  rw [if_neg e3] at h
  by_cases e4 : b = [113, 117, 111, 116]
  · rw [if_pos e4] at h; cases h; subst e4; exact ⟨by decide, by decide, by decide, by decide, by decide⟩
  rw [if_neg e4] at h
  by_cases e5 : b = [97, 112, 111, 115]
  · rw [if_pos e5] at h; cases h; subst e5; exact ⟨by decide, by decide, by decide, by decide, by decide⟩
  rw [if_neg e5] at h; cases h
def sgR : List UInt8 → Option (List UInt8)
  | 35 :: 120 :: r => (num 16 r).bind rn
  | 35 :: r => (num 10 r).bind rn
  | _ => none
set_option maxRecDepth 100000 in
theorem sg_rest (b : List UInt8) (h : nmd b = none) : sg b = sgR b := by
  unfold nmd at h
  by_cases e1 : b = [97, 109, 112]
  · rw [if_pos e1] at h; cases h
  rw [if_neg e1] at h
  by_cases e2 : b = [108, 116]
  · rw [if_pos e2] at h; cases h
  rw [if_neg e2] at h
  by_cases e3 : b = [103, 116]
  · rw [if_pos e3] at h; cases h
  rw [if_neg e3] at h
  by_cases e4 : b = [113, 117, 111, 116]
  · rw [if_pos e4] at h; cases h
  rw [if_neg e4] at h
  by_cases e5 : b = [97, 112, 111, 115]
  · rw [if_pos e5] at h; cases h
  clear h
  unfold sg
  rw [if_neg e1, if_neg e2, if_neg e3, if_neg e4, if_neg e5]
  rfl
/-- what the code needs of a world: utf8's tables, and the error of bad digits -/
def Env (w : World) : Prop := Lib.Utf8Tabs 0 1 w ∧ ∃ ev, w.cell? ⟨4, 0, none⟩ = some ev ∧ (ev = .nilIface ∨ ∃ te pe, ev = .iface te pe)
/-- strconv.ParseUint, at few digits: the number; or an error that is not nil -/
def PuP (n : Option Int) (e : Ending) : Prop := match n with
  | some a => e = .returned (.tuple #[.int .u64 a, .nilIface])
  | none => ∃ N, e = .returned (.tuple #[.int .u64 0, .iface 106 (.pointer (some ⟨N, 0, none⟩))])
set_option maxRecDepth 100000 in
theorem num_bd {base : Int} (hb : 2 ≤ base) (hb2 : base ≤ 16) : ∀ (l : List UInt8) (k : Nat) (a n : Int), 0 ≤ a → a < base ^ k → numF base a l = some n → 0 ≤ n ∧ n < base ^ (k + l.length)
  | [], k, a, n, h0, h1, h => by simp only [numF, Option.some.injEq] at h; subst h; exact ⟨h0, h1⟩
  | c :: r, k, a, n, h0, h1, h => by
    rw [numF] at h
    by_cases q : dg c < base
    · rw [if_pos q] at h
      have hd := dg_bd c
      have hs := pow_step base hb (k + 1) k (Nat.le_refl _) _ (Int.le_refl _) a (dg c) h1 q
      have hm : 0 ≤ base * a := Int.mul_nonneg (by omega) h0
      rw [Int.mul_comm] at hs
      have := num_bd hb hb2 r (k + 1) _ n (by omega) hs.1 h
      rw [List.length_cons, show k + (r.length + 1) = k + 1 + r.length by omega]; exact this
    · rw [if_neg q] at h; cases h
set_option maxRecDepth 100000 in
theorem num_lo {base : Int} (b : base = 10 ∨ base = 16) {l : List UInt8} (hl : l.length ≤ if base = 10 then 9 else 8) {n : Int} (h : num base l = some n) : 0 ≤ n ∧ n ≤ 4294967295 := by
  have hne := num_ne h
  unfold num at h
  rw [if_neg hne] at h
  rcases b with rfl | rfl
  · have := num_bd (by omega) (by omega) l 0 0 n (by omega) (by decide) h
    rw [if_pos rfl] at hl
    have h8 : ∀ m : Fin 10, (10 : Int) ^ (0 + m.val) ≤ 4294967296 := by decide +kernel
    have := h8 ⟨l.length, by omega⟩
    simp only at this
    omega
  · have := num_bd (by omega) (by omega) l 0 0 n (by omega) (by decide) h
    rw [if_neg (by decide)] at hl
    have h8 : ∀ m : Fin 9, (16 : Int) ^ (0 + m.val) ≤ 4294967296 := by decide +kernel
    have := h8 ⟨l.length, by omega⟩
    simp only at this
    omega
set_option maxRecDepth 100000 in
theorem pu_any (base : Int) (hb : base = 10 ∨ base = 16) (l : List UInt8) (w : World) (hl : l.length ≤ if base = 10 then 9 else 8) : Calls Tryd.prog 75 #[.string ⟨l.toArray⟩, .int .i64 base, .int .i64 32] w fun e w' => e = .returned (puT (num base l)) ∧ Kept w w' := by
  rcases hb with rfl | rfl
  · exact pu10_any l w (by simpa using hl)
  · exact pu16_any l w (by simpa using hl)
set_option maxRecDepth 100000 in
theorem cell_lt {w : World} {a : Addr} {v : Value} (h : w.cell? a = some v) : a.block < w.heap.size := by
  by_cases q : a.block < w.heap.size
  · exact q
  · unfold World.cell? at h
    rw [Array.getElem?_eq_none (by omega)] at h
    simp at h
set_option maxRecDepth 100000 in
theorem Kept.yes {w w' : World} (k : Kept w w') {a : Addr} {v : Value} (h : w.cell? a = some v) : w'.cell? a = some v := (k.cell (cell_lt h)).trans h
set_option maxRecDepth 100000 in
theorem Env.kept {w w' : World} (h : Env w) (k : Kept w w') : Env w' := by
  obtain ⟨⟨h1, h2⟩, ev, h3, h4⟩ := h
  exact ⟨⟨fun c hc => k.yes (h1 c hc), fun i hi => ⟨k.yes (h2 i hi).1, k.yes (h2 i hi).2⟩⟩, ev, k.yes h3, h4⟩
set_option maxRecDepth 100000 in
theorem parse_any (base : Int) (hb : base = 10 ∨ base = 16) (l : List UInt8) (w : World) (hI : Env w) (hl : l.length ≤ if base = 10 then 9 else 8) : Calls Tryd.prog 70 #[.string ⟨l.toArray⟩, .int .i64 base, .int .i64 32] w fun e w' => PuP (num base l) e ∧ Kept w w' := by
  have HP := Lib.hid (pu_any base hb l w hl)
  have hl2 : l.length ≤ 9 := by split at hl <;> omega
  clear hb hl
  generalize num base l = n at *
  go_enter Tryd.func70, Tryd.ntmps70
  go_wp2_with fail
  refine HP.out.mono ?_
  rintro e w1 ⟨rfl, k1⟩
  cases n with
  | some a =>
    unfold puT
    go_wp2
    go_ret2
    exact ⟨rfl, k1⟩
  | none =>
    obtain ⟨_, ev, h3, h4⟩ := hI.kept k1
    unfold puT
    go_wp2_with fail
    refine (Tryd.strconv_toError_syntax _ ⟨l.toArray⟩ base 32 ev _ (by show l.toArray.size ≤ _; rw [List.size_toArray]; omega) h3 h4).mono ?_
    rintro e w2 ⟨N, rfl, _, _, b2⟩
    have k2 := k1.trans (Kept.of_below b2)
    go_wp2
    go_ret2
    exact ⟨⟨N, rfl⟩, k2⟩
set_option maxRecDepth 100000 in
theorem rnS_eq (n : Int) : rnS n = (rn n).getD [] ∧ okN n = (rn n).isSome := by
  unfold rnS rn
  cases okN n <;> exact ⟨rfl, rfl⟩
set_option maxRecDepth 100000 in
theorem numbered_any (base : Int) (hb : base = 10 ∨ base = 16) (l : List UInt8) (w : World) (hI : Env w) (hl : l.length ≤ if base = 10 then 9 else 8) :
    Calls Tryd.prog 60 #[.string ⟨l.toArray⟩, .int .i64 base] w fun e w' => e = .returned (.tuple #[.string ⟨(((num base l).bind rn).getD []).toArray⟩, .bool ((num base l).bind rn).isSome]) ∧ Kept w w' := by
  have HP := Lib.hid (parse_any base hb l w hI hl)
  have hbd := fun n h => num_lo hb hl (n := n) h
  clear hb hl hI
  generalize num base l = n at *
  go_enter Tryd.func60, Tryd.ntmps60
  go_wp2_with fail
  refine HP.out.mono ?_
  rintro e w1 ⟨he, k1⟩
  cases n with
  | some a =>
    have hr := hbd a rfl
    have hcv : ∀ W : World, (convert 90 3 (.int .u64 a)).run Tryd.prog W = .ok (.int .i64 a) W := fun W => by
      rw [run_convert_int W _ _ .u64 a (by rw [Tryd.underlying90]; rfl) Tryd.underlying3, show Tryd.prog.intKind 3 = .i64 by kernel_rfl, IntKind.wrap_i64, show (a + 9223372036854775808) % 18446744073709551616 - 9223372036854775808 = a by omega]
    obtain rfl := he
    clear hbd
    go_wp2_with fail
    refine (rune_any a _ (by omega) (by omega)).mono ?_
    rintro e w2 ⟨rfl, rfl⟩
    have hq := Lib.hid (rnS_eq a)
    go_wp2
    go_ret2
    exact ⟨by rw [hq.out.1, hq.out.2]; rfl, k1⟩
  | none =>
    obtain ⟨N, rfl⟩ := he
    clear hbd
    go_wp2
    go_ret2
    exact ⟨rfl, k1⟩
set_option maxRecDepth 100000 in
theorem cutp (b p : List UInt8) (w : World) : Calls Tryd.prog 35 #[.string ⟨b.toArray⟩, .string ⟨p.toArray⟩] w fun e w' => e = .returned (.tuple #[.string ⟨(Lib.trimPrefix b p).toArray⟩, .bool (Lib.hasPrefix b p)]) ∧ w = w' :=
  (Tryd.strings_CutPrefix ⟨b.toArray⟩ ⟨p.toArray⟩ w).mono fun e w' ⟨h1, h2⟩ => ⟨h1, h2.symm⟩
set_option maxRecDepth 100000 in
theorem cutx (r : List UInt8) (w : World) : Calls Tryd.prog 35 #[.string ⟨(35 :: 120 :: r).toArray⟩, .string ⟨#[35, 120]⟩] w fun e w' => e = .returned (.tuple #[.string ⟨r.toArray⟩, .bool true]) ∧ w = w' :=
  (cutp (35 :: 120 :: r) [35, 120] w).mono fun e w' ⟨h1, h2⟩ => ⟨by rw [h1]; simp [Lib.trimPrefix, Lib.hasPrefix, List.isPrefixOf], h2⟩
set_option maxRecDepth 100000 in
theorem cuth (r : List UInt8) (w : World) : Calls Tryd.prog 35 #[.string ⟨(35 :: r).toArray⟩, .string ⟨#[35]⟩] w fun e w' => e = .returned (.tuple #[.string ⟨r.toArray⟩, .bool true]) ∧ w = w' :=
  (cutp (35 :: r) [35] w).mono fun e w' ⟨h1, h2⟩ => ⟨by rw [h1]; simp [Lib.trimPrefix, Lib.hasPrefix, List.isPrefixOf], h2⟩
set_option maxRecDepth 100000 in
theorem cutn (b : List UInt8) (p : List UInt8) (h : p.isPrefixOf b = false) (w : World) : Calls Tryd.prog 35 #[.string ⟨b.toArray⟩, .string ⟨p.toArray⟩] w fun e w' => e = .returned (.tuple #[.string ⟨b.toArray⟩, .bool false]) ∧ w = w' :=
  (cutp b p w).mono fun e w' ⟨h1, h2⟩ => ⟨by rw [h1]; simp [Lib.trimPrefix, Lib.hasPrefix, h], h2⟩
set_option maxRecDepth 100000 in
theorem named_k (w : World) : Kept w (w.alloc (.map es5 5)) := (Kept.refl w).alloc _
set_option maxRecDepth 100000 in
set_option maxHeartbeats 2000000 in
theorem signOf_any (b : List UInt8) (w : World) (hI : Env w) (hl : b.length ≤ 10) :
    Calls Tryd.prog 52 #[.string ⟨b.toArray⟩] w fun e w' => e = .returned (.tuple #[.string ⟨((sg b).getD []).toArray⟩, .bool (sg b).isSome]) ∧ Kept w w' := by
  have k1 := Lib.hid (named_k w)
  have lk := look5 (w.alloc (.map es5 5)) w.heap.size (MapKept.heap_alloc w (.map es5 5)).1 b
  have hI1 := Lib.hid (hI.kept k1.out)
  go_enter Tryd.func52, Tryd.ntmps52
  go_wp2_with fail
  refine (named_any _).mono ?_
  rintro e w1 ⟨rfl, hw1⟩
  rw [← hw1] at lk k1 hI1
  clear hw1
  cases hn : nmd b with
  | some n =>
    have hs := Lib.hid (sg_nmd b n hn)
    have hn1 := hs.out.2.2.2.1
    have hn2 := hs.out.2.2.2.2
    rw [hn] at lk
    clear hn
    go_wp2_with fail
    refine (rune_any n _ (by omega) (by omega)).mono ?_
    rintro e w2 ⟨rfl, rfl⟩
    go_wp2
    go_ret2
    exact ⟨by rw [hs.out.1, hs.out.2.1]; rfl, k1.out⟩
  | none =>
    have hs := Lib.hid (sg_rest b hn)
    rw [hn] at lk
    clear hn
    rcases (show (∃ r, b = 35 :: 120 :: r) ∨ (∃ r, b = 35 :: r ∧ ([35, 120] : List UInt8).isPrefixOf b = false ∧ ∀ r', b ≠ 35 :: 120 :: r') ∨ (([35, 120] : List UInt8).isPrefixOf b = false ∧ ([35] : List UInt8).isPrefixOf b = false ∧ ∀ r', b ≠ 35 :: r') by
      cases b with
      | nil => exact Or.inr (Or.inr ⟨rfl, rfl, fun r' h => by cases h⟩)
      | cons c r =>
        by_cases hc : c = 35
        · subst hc
          cases r with
          | nil => exact Or.inr (Or.inl ⟨[], rfl, rfl, fun r' h => by cases h⟩)
          | cons d r =>
            by_cases hd : d = 120
            · subst hd; exact Or.inl ⟨r, rfl⟩
            · refine Or.inr (Or.inl ⟨d :: r, rfl, ?_, fun r' h => ?_⟩)
              · simp [List.isPrefixOf]; exact fun h => hd h.symm
              · cases h; exact hd rfl
        · refine Or.inr (Or.inr ⟨?_, ?_, fun r' h => ?_⟩)
          · simp [List.isPrefixOf]; exact fun h => absurd h.symm hc
          · simp [List.isPrefixOf]; exact fun h => hc h.symm
          · cases h; exact hc rfl) with ⟨r, rfl⟩ | ⟨r, rfl, hp, hno⟩ | ⟨hp, hp2, hno⟩
    · have hr := Lib.hid (show sg (35 :: 120 :: r) = (num 16 r).bind rn from hs.out)
      simp only [List.length_cons] at hl
      go_wp2_with fail
      refine (cutx r _).mono ?_
      rintro e w2 ⟨rfl, rfl⟩
      go_wp2_with fail
      refine (numbered_any 16 (Or.inr rfl) r _ hI1.out (by rw [if_neg (by decide)]; omega)).mono ?_
      rintro e w3 ⟨rfl, k3⟩
      have k4 := k1.out.trans k3
      go_wp2
      go_ret2
      exact ⟨by rw [hr.out]; rfl, k4⟩
    · have hr := Lib.hid (show sg (35 :: r) = (num 10 r).bind rn from by
        rw [hs.out]
        cases r with
        | nil => rfl
        | cons d r =>
          by_cases hd : d = 120
          · subst hd; exact absurd rfl (hno r)
          · simp [sgR, hd])
      simp only [List.length_cons] at hl
      go_wp2_with fail
      refine (cutn (35 :: r) [35, 120] hp _).mono ?_
      rintro e w2 ⟨rfl, rfl⟩
      go_wp2_with fail
      refine (cuth r _).mono ?_
      rintro e w2 ⟨rfl, rfl⟩
      go_wp2_with fail
      refine (numbered_any 10 (Or.inl rfl) r _ hI1.out (by rw [if_pos rfl]; omega)).mono ?_
      rintro e w3 ⟨rfl, k3⟩
      have k4 := k1.out.trans k3
      go_wp2
      go_ret2
      exact ⟨by rw [hr.out]; rfl, k4⟩
    · have hr := Lib.hid (show sg b = none from by
        rw [hs.out]
        unfold sgR
        split
        · exact absurd rfl (hno _)
        · exact absurd rfl (hno _)
        · rfl)
      go_wp2_with fail
      refine (cutn b [35, 120] hp _).mono ?_
      rintro e w2 ⟨rfl, rfl⟩
      go_wp2_with fail
      refine (cutn b [35] hp2 _).mono ?_
      rintro e w2 ⟨rfl, rfl⟩
      go_wp2
      go_ret2
      exact ⟨by rw [hr.out]; rfl, k1.out⟩
end Go.Proofs.YtpkbcomdkamglaaDoor
