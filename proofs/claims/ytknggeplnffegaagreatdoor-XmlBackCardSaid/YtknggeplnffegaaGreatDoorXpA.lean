/- Package xml: its reader's block; what asks; what takes a sign, a name, blanks, a text up to another one. -/
import Derived.Test.YtknggeplnffegaaGreatDoorXmN
import Derived.Test.YtknggeplnffegaaGreatDoorXpPure
import Derived.Test.YtknggeplnffegaaGreatDoorEnTrim
set_option linter.unusedVariables false
namespace Go.Proofs.YtknggeplnffegaaGreatDoor
open Go.ChangeShapes Go.WideShapes Go.ChangeAt Go.RowKit
open En Xm
abbrev faultV (k : Int) : Value := .iface 58 (.agg #[.int .i64 k])
abbrev gon (k : Int) : Ending := .panicked [{ v := faultV k, recovered := false }]
theorem need_yes (w : World) : Calls Tryz.prog 34 #[.bool true] w fun e w' => e = .returned (.tuple #[]) ∧ w = w' := by
  go_enter Tryz.func34, Tryz.ntmps34
  go_wp2
  exact bodyPost_end (v := .tuple #[]) (by simp [results, Tryz.results34]) rfl ⟨rfl, rfl⟩
theorem need_no (w : World) : Calls Tryz.prog 34 #[.bool false] w fun e w' => e = gon 2 ∧ w = w' := by
  go_enter Tryz.func34, Tryz.ntmps34
  go_wp2
  exact ⟨rfl, rfl, rfl⟩
theorem need_not (b : Bool) (h : b = false) (w : World) : Calls Tryz.prog 34 #[.bool b] w fun e w' => e = gon 2 ∧ w = w' := by subst h; exact need_no w
theorem need_ok (b : Bool) (h : b = true) (w : World) : Calls Tryz.prog 34 #[.bool b] w fun e w' => e = .returned (.tuple #[]) ∧ w = w' := by subst h; exact need_yes w
/-- the reader's block -/
def PB (b : Nat) (r : B) (ov : Value) (g : Bool) (lv : Value) (w : World) : Prop :=
  w.heap[b]? = some (.cells #[sV r, ov, .bool g, lv] 62 (0, 0))
theorem PB.lt {b : Nat} {r : B} {ov : Value} {g : Bool} {lv : Value} {w : World} (h : PB b r ov g lv w) : b < w.heap.size := (Array.getElem?_eq_some_iff.1 h).1
theorem PB.cs {b : Nat} {r : B} {ov : Value} {g : Bool} {lv : Value} {w : World} (h : PB b r ov g lv w) :
    w.cell? ⟨b, 0, none⟩ = some (sV r) ∧ w.cell? ⟨b, 1, none⟩ = some ov ∧ w.cell? ⟨b, 2, none⟩ = some (.bool g) ∧ w.cell? ⟨b, 3, none⟩ = some lv := by
  unfold PB at h
  simp [World.cell?, h]
theorem PB.fz {b : Nat} {r : B} {ov : Value} {g : Bool} {lv : Value} {w : World} (h : PB b r ov g lv w) (j : Nat) : w.frozen? ⟨b, j, none⟩ = false := Lib.frozen_of_heap h j
theorem PB.kept {b : Nat} {r : B} {ov : Value} {g : Bool} {lv : Value} {w w' : World} (h : PB b r ov g lv w) (k : Kept w w') : PB b r ov g lv w' := (k.block b h.lt).trans h
theorem PB.setR {b : Nat} {r : B} {ov : Value} {g : Bool} {lv : Value} {w : World} (h : PB b r ov g lv w) (r' : B) : PB b r' ov g lv (w.setCell ⟨b, 0, none⟩ (sV r')) := by
  unfold PB at h ⊢
  simp [World.setCell, Array.getElem?_modify, h]
theorem PB.setO {b : Nat} {r : B} {ov : Value} {g : Bool} {lv : Value} {w : World} (h : PB b r ov g lv w) (v : Value) : PB b r v g lv (w.setCell ⟨b, 1, none⟩ v) := by
  unfold PB at h ⊢
  simp [World.setCell, Array.getElem?_modify, h]
theorem PB.setG {b : Nat} {r : B} {ov : Value} {g : Bool} {lv : Value} {w : World} (h : PB b r ov g lv w) (v : Bool) : PB b r ov v lv (w.setCell ⟨b, 2, none⟩ (.bool v)) := by
  unfold PB at h ⊢
  simp [World.setCell, Array.getElem?_modify, h]
theorem PB.setL {b : Nat} {r : B} {ov : Value} {g : Bool} {lv : Value} {w : World} (h : PB b r ov g lv w) (v : Value) : PB b r ov g v (w.setCell ⟨b, 3, none⟩ v) := by
  unfold PB at h ⊢
  simp [World.setCell, Array.getElem?_modify, h]
theorem PB.grow {b : Nat} {r : B} {ov : Value} {g : Bool} {lv : Value} {w w' : World} {row : Option Nat} (h : PB b r ov g lv w) (hg : w.grownBy w' row) (hr : NoRow 62 w row) : PB b r ov g lv w' :=
  (hg.block b h.lt (fun e' => hr b e'.symm _ h)).trans h
/-! what the library's calls answer, in lists' words -/
theorem cutp_any (r p : B) (w : World) : Calls Tryz.prog 72 #[sV r, sV p] w fun e w' => e = .returned (.tuple #[sV (if p.isPrefixOf r = true then r.drop p.length else r), .bool (p.isPrefixOf r)]) ∧ w = w' :=
  (Tryz.strings_CutPrefix _ _ w).mono fun e w' h => ⟨by rw [h.1]; unfold Lib.trimPrefix Lib.hasPrefix; simp, h.2.symm⟩
theorem hasp_any (r p : B) (w : World) : Calls Tryz.prog 94 #[sV r, sV p] w fun e w' => e = .returned (.bool (p.isPrefixOf r)) ∧ w = w' :=
  (Tryz.strings_HasPrefix _ _ w).mono fun e w' h => ⟨by rw [h.1]; unfold Lib.hasPrefix; simp, h.2.symm⟩
/-- one package's variable: any whole number -/
def Mx (w : World) : Prop := ∃ m, w.cell? ⟨0, 0, none⟩ = some (.int .i64 m)
theorem Mx.kept {w w' : World} (h : Mx w) (k : Kept w w') : Mx w' := by
  obtain ⟨m, h⟩ := h
  exact ⟨m, k.yes h⟩
def CutP (r p : B) (e : Ending) : Prop := match upt p r with
  | none => e = .returned (.tuple #[sV r, sV [], .bool false])
  | some (a, u) => e = .returned (.tuple #[sV a, sV u, .bool true])
theorem cut_any (r p : B) (hp : p ≠ []) (w : World) (hm : Mx w) (hs : r.length ≤ 1000000) : Calls Tryz.prog 78 #[sV r, sV p] w fun e w' => CutP r p e ∧ Kept w w' := by
  obtain ⟨m, hm⟩ := hm
  refine (Tryz.strings_Cut ⟨r.toArray⟩ ⟨p.toArray⟩ m w (by show r.toArray.size < _; rw [List.size_toArray]; omega) hm).mono fun e w' h => ⟨?_, ?_⟩
  · rw [h.1]
    have := cut_upt hp r
    unfold CutP
    simp only [this]
    cases upt p r with
    | none => rfl
    | some x => rfl
  · obtain ⟨n, rfl⟩ := h.2
    exact (Kept.refl w).drewN n
theorem ixb_any (r : B) (c : UInt8) (w : World) : Calls Tryz.prog 69 #[sV r, .int .u8 c.toNat] w fun e w' => e = .returned (iV (Lib.indexByte r c)) ∧ w = w' :=
  (Tryz.strings_IndexByte _ _ w).mono fun e w' h => ⟨by rw [h.1]; simp, h.2.symm⟩
theorem has60_any (r : B) (w : World) : Calls Tryz.prog 95 #[sV r, sV [60]] w fun e w' => e = .returned (.bool (decide ((60 : UInt8) ∈ r))) ∧ w = w' :=
  (Tryz.strings_Contains_one _ 60 w).mono fun e w' h => ⟨by
    rw [h.1]
    congr 2
    rw [decide_eq_decide]
    show 0 ≤ Lib.indexByte r 60 ↔ _
    rcases ixb_while 60 r with ⟨h1, _, h3⟩ | ⟨h1, _, h3⟩
    · rw [h1]; simp [h3]
    · rw [h1]; simp [h3], h.2.symm⟩
/-! the reader's own small calls -/
def PSk (b : Nat) (r p : B) (ov : Value) (g : Bool) (lv : Value) (w : World) (e : Ending) (w' : World) : Prop :=
  e = .returned (.bool (p.isPrefixOf r)) ∧ PB b (if p.isPrefixOf r = true then r.drop p.length else r) ov g lv w' ∧ Ob b w w'
theorem pskip_any (b : Nat) (r p : B) (ov : Value) (g : Bool) (lv : Value) (w : World) (h : PB b r ov g lv w) :
    Calls Tryz.prog 53 #[pV b, sV p] w (PSk b r p ov g lv w) := by
  obtain ⟨c0, c1, c2, c3⟩ := h.cs
  have f0 := h.fz 0
  have H := Lib.hid (h.setR (if p.isPrefixOf r = true then r.drop p.length else r))
  have O := Lib.hid ((Ob.refl b w).set 0 (sV (if p.isPrefixOf r = true then r.drop p.length else r)))
  clear h c1 c2 c3
  go_enter Tryz.func53, Tryz.ntmps53
  go_wp2_with fail
  refine (cutp_any r p _).mono ?_
  rintro e w1 ⟨rfl, rfl⟩
  have Z := Lib.hid (fun (e : Ending) (he : e = .returned (.bool (p.isPrefixOf r))) => show PSk b r p ov g lv w e _ from ⟨he, H.out, O.out⟩)
  clear H O
  generalize (if p.isPrefixOf r = true then r.drop p.length else r) = u at *
  generalize p.isPrefixOf r = q at *
  go_wp2
  go_ret
  exact Z.out _ rfl
/-- up to a text: what stands ahead, or a fault -/
def PUp (b : Nat) (r p : B) (ov : Value) (g : Bool) (lv : Value) (w : World) (e : Ending) (w' : World) : Prop :=
  Ob b w w' ∧ match upt p r with
  | none => e = gon 2
  | some (a, u) => e = .returned (sV a) ∧ PB b u ov g lv w'
theorem pupto_any (b : Nat) (r p : B) (ov : Value) (g : Bool) (lv : Value) (w : World) (h : PB b r ov g lv w) (hm : Mx w) (hp : p ≠ []) (hs : r.length ≤ 1000000) :
    Calls Tryz.prog 62 #[pV b, sV p] w (PUp b r p ov g lv w) := by
  obtain ⟨c0, c1, c2, c3⟩ := h.cs
  go_enter Tryz.func62, Tryz.ntmps62
  go_wp2_with fail
  refine (cut_any r p hp _ hm hs).mono ?_
  rintro e w1 ⟨he, k1⟩
  have h1 := h.kept k1
  have o1 := (Ob.refl b w).kept k1
  unfold CutP at he
  clear h hm hp
  cases hu : upt p r with
  | none =>
    rw [hu] at he
    subst he
    have H := Lib.hid h1
    have O := Lib.hid (show PUp b r p ov g lv w (gon 2) w1 from ⟨o1, by rw [hu]⟩)
    clear h1 o1 hu k1 c0 c1 c2 c3
    go_wp2_with fail
    refine (need_no _).mono ?_
    rintro e w2 ⟨rfl, rfl⟩
    exact ⟨rfl, O.out⟩
  | some x =>
    obtain ⟨a, u⟩ := x
    rw [hu] at he
    simp only at he
    subst he
    have f0 := h1.fz 0
    obtain ⟨d0, d1, d2, d3⟩ := h1.cs
    have H := Lib.hid (h1.setR u)
    have O := Lib.hid (show PUp b r p ov g lv w (.returned (sV a)) (w1.setCell ⟨b, 0, none⟩ (sV u)) from ⟨o1.set 0 (sV u), by rw [hu]; exact ⟨rfl, H.out⟩⟩)
    clear h1 o1 hu k1 c0 c1 c2 c3 d1 d2 d3
    go_wp2_with fail
    refine (need_yes _).mono ?_
    rintro e w2 ⟨rfl, rfl⟩
    go_wp2
    go_ret
    exact O.out
end Go.Proofs.YtknggeplnffegaaGreatDoor
