/- Package plain: the names of marks that break, a map of fourteen. -/
import Derived.Test.YtpkbcomdkamglaaDoorPlC
set_option linter.unusedSimpArgs false
set_option linter.unusedVariables false
namespace Go.Proofs.YtpkbcomdkamglaaDoor.Pl
open Go.ChangeShapes Go.WideShapes Go.ChangeAt Go.RowKit
open En
def enM (b : B) (c : Nat) : MapEntry := { key := .string ⟨b.toArray⟩, val := .agg #[], born := c }
theorem run_in0 (w : World) (es : Array MapEntry) (c : Nat) (b : B) (hf : Instr.findNow .string (.string ⟨b.toArray⟩) es.toList 0 = some none) :
    (Instr.mapUpdate 35 (.map (some w.heap.size)) (.string ⟨b.toArray⟩) (.agg #[])).run Tryd.prog (w.alloc (.map es c)) = .ok () (w.alloc (.map (es.push (enM b c)) (c + 1))) := by
  have hb := (MapKept.heap_alloc w (.map es c)).1
  unfold Instr.mapUpdate
  simp only [Sem.run_bind, run_underlying Tryd.underlying35, Result.andThen, MapKept.run_getObj_map hb]
  rw [MapKept.run_checkKey Tryd.underlying9 (by simp [MapKept.IsKey]) false 9999]
  simp only [MapKept.run_findKey Tryd.underlying9 hf]
  rw [MapKept.run_setObj_map _ hb]
  congr 1
  show ({ w with heap := (w.heap.push _).setIfInBounds w.heap.size _ } : World) = { w with heap := w.heap.push _ }
  rw [set_push]; rfl
def enL : Nat → List B → List MapEntry
  | _, [] => []
  | c, b :: r => enM b c :: enL (c + 1) r
theorem find_enL (x : B) : ∀ (l : List B) (c i : Nat), ∃ r, Instr.findNow .string (.string ⟨x.toArray⟩) (enL c l) i = some r ∧ r.map (·.2) = if l.contains x = true then some (Value.agg #[]) else none
  | [], c, i => ⟨none, rfl, rfl⟩
  | b :: l, c, i => by
    obtain ⟨r, h1, h2⟩ := find_enL x l (c + 1) (i + 1)
    unfold enL enM
    rw [Instr.findNow, Instr.sameNow]
    simp only [ba_beq]
    by_cases e : x = b
    · subst e
      refine ⟨some (i, .agg #[]), by simp only [decide_true], by simp⟩
    · refine ⟨r, by simp only [decide_eq_false e]; exact h1, ?_⟩
      rw [h2]
      have : (b :: l).contains x = l.contains x := by
        rw [List.contains_cons, beq_eq_false_iff_ne.2 e, Bool.false_or]
      rw [this]
def es14 : Array MapEntry := (enL 0 brkL).toArray
theorem look14 (w : World) (k : Nat) (hb : w.heap[k]? = some (.map es14 14)) (b : B) :
    (Instr.lookup 35 (.map (some k)) (.string ⟨b.toArray⟩) true).run Tryd.prog w = .ok (.tuple #[.agg #[], .bool (brk b)]) w := by
  obtain ⟨r, h1, h2⟩ := find_enL b brkL 0 0
  unfold Instr.lookup
  simp only [Sem.run_bind, run_underlying Tryd.underlying35, Result.andThen, MapKept.run_getObj_map hb, Sem.run_pure]
  rw [MapKept.run_checkKey Tryd.underlying9 (by simp [MapKept.IsKey]) _ 9999]
  simp only [MapKept.run_findKey Tryd.underlying9 (show Instr.findNow .string (.string ⟨b.toArray⟩) es14.toList 0 = some r from h1)]
  unfold brk
  cases hn : brkL.contains b with
  | false =>
    rw [hn] at h2
    cases r with
    | none => simp [Tryd.zeroValue49]
    | some p => simp at h2
  | true =>
    rw [hn] at h2
    cases r with
    | none => simp at h2
    | some p =>
      obtain ⟨i, v⟩ := p
      simp at h2
      subst h2
      simp
set_option maxRecDepth 100000 in
theorem breaking_any (w : World) : Calls Tryd.prog 17 #[] w fun e w' => e = .returned (.map (some w.heap.size)) ∧ w' = w.alloc (.map es14 14) := by
  have hmm := @run_makeMap Tryd.prog
  obtain ⟨E1, e1⟩ : ∃ E, E = ((#[] : Array MapEntry)).push (enM [112] 0) := ⟨_, rfl⟩
  have h1 := run_in0 w (#[] : Array MapEntry) 0 [112] (by rfl)
  rw [← e1] at h1
  obtain ⟨E2, e2⟩ : ∃ E, E = (E1).push (enM [98, 114] 1) := ⟨_, rfl⟩
  have h2 := run_in0 w E1 1 [98, 114] (by subst e1; rfl)
  rw [← e2] at h2
  obtain ⟨E3, e3⟩ : ∃ E, E = (E2).push (enM [100, 105, 118] 2) := ⟨_, rfl⟩
  have h3 := run_in0 w E2 2 [100, 105, 118] (by subst e2 e1; rfl)
  rw [← e3] at h3
  obtain ⟨E4, e4⟩ : ∃ E, E = (E3).push (enM [108, 105] 3) := ⟨_, rfl⟩
  have h4 := run_in0 w E3 3 [108, 105] (by subst e3 e2 e1; rfl)
  rw [← e4] at h4
  obtain ⟨E5, e5⟩ : ∃ E, E = (E4).push (enM [116, 114] 4) := ⟨_, rfl⟩
  have h5 := run_in0 w E4 4 [116, 114] (by subst e4 e3 e2 e1; rfl)
  rw [← e5] at h5
  obtain ⟨E6, e6⟩ : ∃ E, E = (E5).push (enM [117, 108] 5) := ⟨_, rfl⟩
  have h6 := run_in0 w E5 5 [117, 108] (by subst e5 e4 e3 e2 e1; rfl)
  rw [← e6] at h6
  obtain ⟨E7, e7⟩ : ∃ E, E = (E6).push (enM [111, 108] 6) := ⟨_, rfl⟩
  have h7 := run_in0 w E6 6 [111, 108] (by subst e6 e5 e4 e3 e2 e1; rfl)
  rw [← e7] at h7
  obtain ⟨E8, e8⟩ : ∃ E, E = (E7).push (enM [116, 97, 98, 108, 101] 7) := ⟨_, rfl⟩
  have h8 := run_in0 w E7 7 [116, 97, 98, 108, 101] (by subst e7 e6 e5 e4 e3 e2 e1; rfl)
  rw [← e8] at h8
  obtain ⟨E9, e9⟩ : ∃ E, E = (E8).push (enM [104, 49] 8) := ⟨_, rfl⟩
  have h9 := run_in0 w E8 8 [104, 49] (by subst e8 e7 e6 e5 e4 e3 e2 e1; rfl)
  rw [← e9] at h9
  obtain ⟨E10, e10⟩ : ∃ E, E = (E9).push (enM [104, 50] 9) := ⟨_, rfl⟩
  have h10 := run_in0 w E9 9 [104, 50] (by subst e9 e8 e7 e6 e5 e4 e3 e2 e1; rfl)
  rw [← e10] at h10
  obtain ⟨E11, e11⟩ : ∃ E, E = (E10).push (enM [104, 51] 10) := ⟨_, rfl⟩
  have h11 := run_in0 w E10 10 [104, 51] (by subst e10 e9 e8 e7 e6 e5 e4 e3 e2 e1; rfl)
  rw [← e11] at h11
  obtain ⟨E12, e12⟩ : ∃ E, E = (E11).push (enM [104, 52] 11) := ⟨_, rfl⟩
  have h12 := run_in0 w E11 11 [104, 52] (by subst e11 e10 e9 e8 e7 e6 e5 e4 e3 e2 e1; rfl)
  rw [← e12] at h12
  obtain ⟨E13, e13⟩ : ∃ E, E = (E12).push (enM [104, 53] 12) := ⟨_, rfl⟩
  have h13 := run_in0 w E12 12 [104, 53] (by subst e12 e11 e10 e9 e8 e7 e6 e5 e4 e3 e2 e1; rfl)
  rw [← e13] at h13
  obtain ⟨E14, e14⟩ : ∃ E, E = (E13).push (enM [104, 54] 13) := ⟨_, rfl⟩
  have h14 := run_in0 w E13 13 [104, 54] (by subst e13 e12 e11 e10 e9 e8 e7 e6 e5 e4 e3 e2 e1; rfl)
  rw [← e14] at h14
  have HE := Lib.hid (show E14 = es14 by subst e14 e13 e12 e11 e10 e9 e8 e7 e6 e5 e4 e3 e2 e1; rfl)
  clear e1 e2 e3 e4 e5 e6 e7 e8 e9 e10 e11 e12 e13 e14
  go_enter Tryd.func17, Tryd.ntmps17
  go_wp2
  go_ret
  exact ⟨rfl, by rw [HE.out]⟩
end Go.Proofs.YtpkbcomdkamglaaDoor.Pl
