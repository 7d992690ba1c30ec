/- Several texts of this seat, one behind the other. -/
import Derived.Test.YtflhmgnhjnaiiaaGreatDoorXmX
import Derived.Test.YtflhmgnhjnaiiaaGreatDoorShelf
import Derived.Lib.IndexLaws
import Derived.Lib.IndexMore
import Derived.Test.YtflhmgnhjnaiiaaGreatDoorXmY
import Derived.Test.YtflhmgnhjnaiiaaGreatDoorEnT
set_option linter.unusedSimpArgs false
/- Plain mathematics of documents, in the words of the program's reader: what it takes, and when it stops. -/
set_option linter.unusedVariables false
namespace Go.Proofs.YtflhmgnhjnaiiaaGreatDoor.Xm
open En
theorem index_upt {p : B} (hp : p ≠ []) : ∀ (r : B), (upt p r = none ∧ Lib.index r p = -1) ∨ ∃ a u, upt p r = some (a, u) ∧ Lib.index r p = a.length ∧ r = a ++ p ++ u
  | [] => by
    left
    refine ⟨by rw [upt, if_neg hp], ?_⟩
    unfold Lib.index
    rw [if_neg (by simpa using hp)]
  | c :: r => by
    rw [upt]
    unfold Lib.index
    by_cases q : p.isPrefixOf (c :: r) = true
    · rw [if_pos q, if_pos q]
      right
      refine ⟨[], (c :: r).drop p.length, rfl, rfl, ?_⟩
      obtain ⟨t, ht⟩ := List.isPrefixOf_iff_prefix.1 q
      rw [← ht]; simp
    · rw [if_neg q, if_neg q]
      rcases index_upt hp r with ⟨h1, h2⟩ | ⟨a, u, h1, h2, h3⟩
      · left
        rw [h1, h2]
        exact ⟨rfl, rfl⟩
      · right
        rw [h1, h2]
        refine ⟨c :: a, u, rfl, ?_, by rw [h3]; simp⟩
        rw [if_neg (by simp)]
        simp
theorem cut_upt {p : B} (hp : p ≠ []) (r : B) : Lib.cut r p = match upt p r with
    | none => (r, [], false)
    | some (a, u) => (a, u, true) := by
  unfold Lib.cut
  rcases index_upt hp r with ⟨h1, h2⟩ | ⟨a, u, h1, h2, h3⟩
  · rw [h1, h2]; rfl
  · rw [h1, h2, if_pos (by omega)]
    simp only [Int.toNat_natCast]
    have e1 : r.take a.length = a := by rw [h3]; simp
    have e2 : r.drop (a.length + p.length) = u := by
      rw [h3, ← List.length_append, List.drop_left']
      simp
    rw [e1, e2]
theorem ixb_while (c : UInt8) : ∀ (r : B), (Lib.indexByte r c = -1 ∧ r.takeWhile (· != c) = r ∧ c ∉ r) ∨ (Lib.indexByte r c = ((r.takeWhile (· != c)).length : Int) ∧ (r.takeWhile (· != c)).length < r.length ∧ c ∈ r)
  | [] => Or.inl ⟨rfl, rfl, by simp⟩
  | b :: r => by
    unfold Lib.indexByte
    rw [List.takeWhile_cons]
    by_cases q : b = c
    · subst q
      right
      simp
    · have hb : (b == c) = false := by simpa using q
      have hb2 : (b != c) = true := by simpa using q
      rw [hb, hb2]
      have hcb : ¬ c = b := fun e => q e.symm
      rcases ixb_while c r with ⟨h1, h2, h3⟩ | ⟨h1, h2, h3⟩
      · left
        rw [h1]
        simp [h2, h3, hcb]
      · right
        rw [h1]
        refine ⟨?_, by simp; omega, by simp [h3]⟩
        rw [if_neg (by decide), if_neg (by simp)]
        simp
theorem take_while_len (p : UInt8 → Bool) (r : B) : r.take (r.takeWhile p).length = r.takeWhile p ∧ r.drop (r.takeWhile p).length = r.dropWhile p := by
  have h : r.takeWhile p ++ r.dropWhile p = r := List.takeWhile_append_dropWhile
  generalize r.takeWhile p = a at *
  generalize r.dropWhile p = b at *
  subst h
  simp
/-- does a sign stand first that may end a tag? -/
def mEnd : B → Bool
  | 62 :: _ => true
  | 47 :: _ => true
  | _ => false
theorem pEnd_eq (r : B) : mEnd r = (([47] : B).isPrefixOf r || ([62] : B).isPrefixOf r) := by
  cases r with
  | nil => rfl
  | cons c r =>
    by_cases h1 : c = 62
    · subst h1; rfl
    · by_cases h2 : c = 47
      · subst h2; rfl
      · have g1 : ((47 : UInt8) == c) = false := by simpa using fun e => h2 e.symm
        have g2 : ((62 : UInt8) == c) = false := by simpa using fun e => h1 e.symm
        have : mEnd (c :: r) = false := by
          unfold mEnd
          split
          · rename_i e; cases e; exact absurd rfl h1
          · rename_i e; cases e; exact absurd rfl h2
          · rfl
        rw [this]
        simp [List.isPrefixOf, g1, g2]
/-- attributes, as the program takes them: without a blank ahead, or where a tag may end, no more -/
def patrs : Nat → B → List Atr → Option (List Atr × B)
  | 0, _, _ => none
  | f + 1, r, acc =>
    if (skip r).length = r.length ∨ mEnd (skip r) = true then some (acc, skip r)
    else match atr (skip r) with
      | none => none
      | some (a, u) => if (acc.map (·.1)).contains a.1 = true then none else patrs f u (acc ++ [a])
theorem atr_mEnd {r : B} (h : mEnd r = true) : atr r = none := by
  have e : nmS r = ([], r) := by
    unfold mEnd at h
    split at h
    · rfl
    · rfl
    · cases h
  unfold atr
  rw [e, if_neg (by simp [isN])]
theorem tagEnd_mEnd {r : B} (h : tagEnd r = true) : mEnd r = true := by
  unfold tagEnd at h
  split at h
  · rfl
  · rfl
  · cases h
theorem atr_nil : atr [] = none := rfl
theorem patrs_atrs : ∀ (f : Nat) (r : B) (acc : List Atr), r.length < f → atrs f r acc = match patrs f r acc with
    | none => none
    | some (al, u) => if tagEnd u = true then some (al, u) else none
  | 0, r, acc, h => by omega
  | f + 1, r, acc, h => by
    rw [atrs, patrs]
    by_cases q : tagEnd (skip r) = true
    · rw [if_pos q, if_pos (Or.inr (tagEnd_mEnd q))]
      simp only
      rw [if_pos q]
    · rw [if_neg q]
      by_cases q1 : (skip r).length = r.length
      · rw [if_pos (Or.inl q1), if_pos (Or.inl q1)]
        simp only
        rw [if_neg q]
      · by_cases q2 : mEnd (skip r) = true
        · rw [if_pos (show (skip r).length = r.length ∨ mEnd (skip r) = true from Or.inr q2), atr_mEnd q2]
          simp only
          rw [if_neg q]
          split <;> rfl
        · rw [if_neg (show ¬ ((skip r).length = r.length ∨ mEnd (skip r) = true) by simp [q1, q2])]
          by_cases q3 : skip r = []
          · rw [if_pos (Or.inr q3), q3, atr_nil]
          · rw [if_neg (by simp [q1, q3])]
            cases ha : atr (skip r) with
            | none => rfl
            | some x =>
              obtain ⟨a, u⟩ := x
              simp only
              split
              · rfl
              · have h1 := atr_len ha
                have h2 := skip_len r
                exact patrs_atrs f u _ (by omega)
theorem patrs_more : ∀ (f g : Nat) (r : B) (acc : List Atr), r.length < f → f ≤ g → patrs g r acc = patrs f r acc
  | 0, _, _, _, h, _ => by omega
  | f + 1, 0, _, _, _, h => by omega
  | f + 1, g + 1, r, acc, h, hg => by
    rw [patrs, patrs]
    split
    · rfl
    · cases ha : atr (skip r) with
      | none => rfl
      | some x =>
        obtain ⟨a, u⟩ := x
        simp only
        split
        · rfl
        · have h1 := atr_len ha
          have h2 := skip_len r
          exact patrs_more f g u _ (by omega) (by omega)
/-- an element's beginning, behind its first sign, in the program's words -/
def popenS (r : B) (s : St) : Re :=
  if isN (nmS r).1 = true then
    match patrs ((nmS r).2.length + 1) (nmS r).2 [] with
    | none => .er 2
    | some (al, u) =>
      if ([62] : B).isPrefixOf (if ([47] : B).isPrefixOf u = true then u.drop 1 else u) = true then
        if s.o = [] ∧ 1 ≤ s.n then .er 2
        else if 20 < s.o.length + 1 then .er 5
        else
          let s' : St := ⟨(if ([47] : B).isPrefixOf u = true then u.drop 1 else u).drop 1, s.o ++ [(nmS r).1], if s.o = [] then s.n + 1 else s.n, s.l ++ [tO (nmS r).1 al]⟩
          if ([47] : B).isPrefixOf u = true then shut (nmS r).1 s'.r s' else .ok s'
      else .er 2
  else .er 2
theorem pfx1 {q c : UInt8} {y : B} : ([q] : B).isPrefixOf (c :: y) = (q == c) := by simp [List.isPrefixOf]
theorem open_popen (s : St) : openS s = popenS (s.r.drop 1) s := by
  unfold openS popenS
  simp only
  by_cases hn : isN (nmS (s.r.drop 1)).1 = true
  · rw [if_pos hn, if_pos hn, patrs_atrs _ _ _ (Nat.lt_succ_self _)]
    cases hp : patrs ((nmS (s.r.drop 1)).2.length + 1) (nmS (s.r.drop 1)).2 [] with
    | none => rfl
    | some x =>
      obtain ⟨al, u⟩ := x
      simp only
      match u with
      | [] => rfl
      | [c] =>
        by_cases h1 : c = 62
        · subst h1; rfl
        · have ht : tagEnd [c] = false := by
            unfold tagEnd; split
            · rename_i e; cases e; exact absurd rfl h1
            · rename_i e; cases e
            · rfl
          have g1 : ((62 : UInt8) == c) = false := by simpa using fun e => h1 e.symm
          rw [ht, if_neg (by decide)]
          by_cases h2 : c = 47
          · subst h2; rfl
          · have g2 : ((47 : UInt8) == c) = false := by simpa using fun e => h2 e.symm
            simp [List.isPrefixOf, g1, g2]
      | c :: d :: v =>
        by_cases h1 : c = 62
        · subst h1; rfl
        · have g1 : ((62 : UInt8) == c) = false := by simpa using fun e => h1 e.symm
          by_cases h2 : c = 47
          · subst h2
            by_cases h3 : d = 62
            · subst h3; rfl
            · have g3 : ((62 : UInt8) == d) = false := by simpa using fun e => h3 e.symm
              have ht : tagEnd (47 :: d :: v) = false := by
                unfold tagEnd; split
                · rename_i e; cases e
                · rename_i e; cases e; exact absurd rfl h3
                · rfl
              rw [ht, if_neg (by decide)]
              simp [List.isPrefixOf, g3]
          · have g2 : ((47 : UInt8) == c) = false := by simpa using fun e => h2 e.symm
            have ht : tagEnd (c :: d :: v) = false := by
              unfold tagEnd; split
              · rename_i e; cases e; exact absurd rfl h1
              · rename_i e; cases e; exact absurd rfl h2
              · rfl
            rw [ht, if_neg (by decide)]
            simp [List.isPrefixOf, g1, g2]
  · rw [if_neg hn, if_neg hn]
end Go.Proofs.YtflhmgnhjnaiiaaGreatDoor.Xm
/- Package xml: its reader's block; what asks; what takes a sign, a name, blanks, a text up to another one. -/
set_option linter.unusedVariables false
namespace Go.Proofs.YtflhmgnhjnaiiaaGreatDoor
open Go.ChangeShapes Go.WideShapes Go.ChangeAt Go.RowKit
open En Xm
abbrev faultV (k : Int) : Value := .iface 75 (.agg #[.int .i64 k])
abbrev gon (k : Int) : Ending := .panicked [{ v := faultV k, recovered := false }]
theorem need_yes (w : World) : Calls Tryz.prog 33 #[.bool true] w fun e w' => e = .returned (.tuple #[]) ∧ w = w' := by
  go_enter Tryz.func33, Tryz.ntmps33
  go_wp2
  exact bodyPost_end (v := .tuple #[]) (by simp [results, Tryz.results33]) rfl ⟨rfl, rfl⟩
theorem need_no (w : World) : Calls Tryz.prog 33 #[.bool false] w fun e w' => e = gon 2 ∧ w = w' := by
  go_enter Tryz.func33, Tryz.ntmps33
  go_wp2
  exact ⟨rfl, rfl, rfl⟩
theorem need_not (b : Bool) (h : b = false) (w : World) : Calls Tryz.prog 33 #[.bool b] w fun e w' => e = gon 2 ∧ w = w' := by subst h; exact need_no w
theorem need_ok (b : Bool) (h : b = true) (w : World) : Calls Tryz.prog 33 #[.bool b] w fun e w' => e = .returned (.tuple #[]) ∧ w = w' := by subst h; exact need_yes w
/-- the reader's block -/
def PB (b : Nat) (r : B) (ov : Value) (g : Bool) (lv : Value) (w : World) : Prop :=
  w.heap[b]? = some (.cells #[sV r, ov, .bool g, lv] 80 (0, 0))
theorem PB.lt {b : Nat} {r : B} {ov : Value} {g : Bool} {lv : Value} {w : World} (h : PB b r ov g lv w) : b < w.heap.size := (Array.getElem?_eq_some_iff.1 h).1
theorem PB.cs {b : Nat} {r : B} {ov : Value} {g : Bool} {lv : Value} {w : World} (h : PB b r ov g lv w) :
    w.cell? ⟨b, 0, none⟩ = some (sV r) ∧ w.cell? ⟨b, 1, none⟩ = some ov ∧ w.cell? ⟨b, 2, none⟩ = some (.bool g) ∧ w.cell? ⟨b, 3, none⟩ = some lv := by
  unfold PB at h
  simp [World.cell?, h]
theorem PB.fz {b : Nat} {r : B} {ov : Value} {g : Bool} {lv : Value} {w : World} (h : PB b r ov g lv w) (j : Nat) : w.frozen? ⟨b, j, none⟩ = false := Lib.frozen_of_heap h j
theorem PB.kept {b : Nat} {r : B} {ov : Value} {g : Bool} {lv : Value} {w w' : World} (h : PB b r ov g lv w) (k : Kept w w') : PB b r ov g lv w' := (k.block b h.lt).trans h
theorem PB.setR {b : Nat} {r : B} {ov : Value} {g : Bool} {lv : Value} {w : World} (h : PB b r ov g lv w) (r' : B) : PB b r' ov g lv (w.setCell ⟨b, 0, none⟩ (sV r')) := by
  unfold PB at h ⊢
  simp [World.setCell, Array.getElem?_modify, h]
theorem PB.setO {b : Nat} {r : B} {ov : Value} {g : Bool} {lv : Value} {w : World} (h : PB b r ov g lv w) (v : Value) : PB b r v g lv (w.setCell ⟨b, 1, none⟩ v) := by
  unfold PB at h ⊢
  simp [World.setCell, Array.getElem?_modify, h]
theorem PB.setG {b : Nat} {r : B} {ov : Value} {g : Bool} {lv : Value} {w : World} (h : PB b r ov g lv w) (v : Bool) : PB b r ov v lv (w.setCell ⟨b, 2, none⟩ (.bool v)) := by
  unfold PB at h ⊢
  simp [World.setCell, Array.getElem?_modify, h]
theorem PB.setL {b : Nat} {r : B} {ov : Value} {g : Bool} {lv : Value} {w : World} (h : PB b r ov g lv w) (v : Value) : PB b r ov g v (w.setCell ⟨b, 3, none⟩ v) := by
  unfold PB at h ⊢
  simp [World.setCell, Array.getElem?_modify, h]
theorem PB.grow {b : Nat} {r : B} {ov : Value} {g : Bool} {lv : Value} {w w' : World} {row : Option Nat} (h : PB b r ov g lv w) (hg : w.grownBy w' row) (hr : NoRow 80 w row) : PB b r ov g lv w' :=
  (hg.block b h.lt (fun e' => hr b e'.symm _ h)).trans h
/-! what the library's calls answer, in lists' words -/
theorem cutp_any (r p : B) (w : World) : Calls Tryz.prog 63 #[sV r, sV p] w fun e w' => e = .returned (.tuple #[sV (if p.isPrefixOf r = true then r.drop p.length else r), .bool (p.isPrefixOf r)]) ∧ w = w' :=
  (Tryz.strings_CutPrefix _ _ w).mono fun e w' h => ⟨by rw [h.1]; unfold Lib.trimPrefix Lib.hasPrefix; simp, h.2.symm⟩
theorem hasp_any (r p : B) (w : World) : Calls Tryz.prog 80 #[sV r, sV p] w fun e w' => e = .returned (.bool (p.isPrefixOf r)) ∧ w = w' :=
  (Tryz.strings_HasPrefix _ _ w).mono fun e w' h => ⟨by rw [h.1]; unfold Lib.hasPrefix; simp, h.2.symm⟩
/-- one package's variable: any whole number -/
def Mx (w : World) : Prop := ∃ m, w.cell? ⟨2, 0, none⟩ = some (.int .i64 m)
theorem Mx.kept {w w' : World} (h : Mx w) (k : Kept w w') : Mx w' := by
  obtain ⟨m, h⟩ := h
  exact ⟨m, k.yes h⟩
def CutP (r p : B) (e : Ending) : Prop := match upt p r with
  | none => e = .returned (.tuple #[sV r, sV [], .bool false])
  | some (a, u) => e = .returned (.tuple #[sV a, sV u, .bool true])
theorem cut_any (r p : B) (hp : p ≠ []) (w : World) (hm : Mx w) (hs : r.length ≤ 1000000) : Calls Tryz.prog 67 #[sV r, sV p] w fun e w' => CutP r p e ∧ Kept w w' := by
  obtain ⟨m, hm⟩ := hm
  refine (Tryz.strings_Cut ⟨r.toArray⟩ ⟨p.toArray⟩ m w (by show r.toArray.size < _; rw [List.size_toArray]; omega) hm).mono fun e w' h => ⟨?_, ?_⟩
  · rw [h.1]
    have := cut_upt hp r
    unfold CutP
    simp only [this]
    cases upt p r with
    | none => rfl
    | some x => rfl
  · obtain ⟨n, rfl⟩ := h.2
    exact (Kept.refl w).drewN n
theorem ixb_any (r : B) (c : UInt8) (w : World) : Calls Tryz.prog 61 #[sV r, .int .u8 c.toNat] w fun e w' => e = .returned (iV (Lib.indexByte r c)) ∧ w = w' :=
  (Tryz.strings_IndexByte _ _ w).mono fun e w' h => ⟨by rw [h.1]; simp, h.2.symm⟩
theorem has60_any (r : B) (w : World) : Calls Tryz.prog 81 #[sV r, sV [60]] w fun e w' => e = .returned (.bool (decide ((60 : UInt8) ∈ r))) ∧ w = w' :=
  (Tryz.strings_Contains_one _ 60 w).mono fun e w' h => ⟨by
    rw [h.1]
    congr 2
    rw [decide_eq_decide]
    show 0 ≤ Lib.indexByte r 60 ↔ _
    rcases ixb_while 60 r with ⟨h1, _, h3⟩ | ⟨h1, _, h3⟩
    · rw [h1]; simp [h3]
    · rw [h1]; simp [h3], h.2.symm⟩
/-! the reader's own small calls -/
def PSk (b : Nat) (r p : B) (ov : Value) (g : Bool) (lv : Value) (w : World) (e : Ending) (w' : World) : Prop :=
  e = .returned (.bool (p.isPrefixOf r)) ∧ PB b (if p.isPrefixOf r = true then r.drop p.length else r) ov g lv w' ∧ Ob b w w'
theorem pskip_any (b : Nat) (r p : B) (ov : Value) (g : Bool) (lv : Value) (w : World) (h : PB b r ov g lv w) :
    Calls Tryz.prog 48 #[pV b, sV p] w (PSk b r p ov g lv w) := by
  obtain ⟨c0, c1, c2, c3⟩ := h.cs
  have f0 := h.fz 0
  have H := Lib.hid (h.setR (if p.isPrefixOf r = true then r.drop p.length else r))
  have O := Lib.hid ((Ob.refl b w).set 0 (sV (if p.isPrefixOf r = true then r.drop p.length else r)))
  clear h c1 c2 c3
  go_enter Tryz.func48, Tryz.ntmps48
  go_wp2_with fail
  refine (cutp_any r p _).mono ?_
  rintro e w1 ⟨rfl, rfl⟩
  have Z := Lib.hid (fun (e : Ending) (he : e = .returned (.bool (p.isPrefixOf r))) => show PSk b r p ov g lv w e _ from ⟨he, H.out, O.out⟩)
  clear H O
  generalize (if p.isPrefixOf r = true then r.drop p.length else r) = u at *
  generalize p.isPrefixOf r = q at *
  go_wp2
  go_ret
  exact Z.out _ rfl
/-- up to a text: what stands ahead, or a fault -/
def PUp (b : Nat) (r p : B) (ov : Value) (g : Bool) (lv : Value) (w : World) (e : Ending) (w' : World) : Prop :=
  Ob b w w' ∧ match upt p r with
  | none => e = gon 2
  | some (a, u) => e = .returned (sV a) ∧ PB b u ov g lv w'
theorem pupto_any (b : Nat) (r p : B) (ov : Value) (g : Bool) (lv : Value) (w : World) (h : PB b r ov g lv w) (hm : Mx w) (hp : p ≠ []) (hs : r.length ≤ 1000000) :
    Calls Tryz.prog 54 #[pV b, sV p] w (PUp b r p ov g lv w) := by
  obtain ⟨c0, c1, c2, c3⟩ := h.cs
  go_enter Tryz.func54, Tryz.ntmps54
  go_wp2_with fail
  refine (cut_any r p hp _ hm hs).mono ?_
  rintro e w1 ⟨he, k1⟩
  have h1 := h.kept k1
  have o1 := (Ob.refl b w).kept k1
  unfold CutP at he
  clear h hm hp
  cases hu : upt p r with
  | none =>
    rw [hu] at he
    subst he
    have H := Lib.hid h1
    have O := Lib.hid (show PUp b r p ov g lv w (gon 2) w1 from ⟨o1, by rw [hu]⟩)
    clear h1 o1 hu k1 c0 c1 c2 c3
    go_wp2_with fail
    refine (need_no _).mono ?_
    rintro e w2 ⟨rfl, rfl⟩
    exact ⟨rfl, O.out⟩
  | some x =>
    obtain ⟨a, u⟩ := x
    rw [hu] at he
    simp only at he
    subst he
    have f0 := h1.fz 0
    obtain ⟨d0, d1, d2, d3⟩ := h1.cs
    have H := Lib.hid (h1.setR u)
    have O := Lib.hid (show PUp b r p ov g lv w (.returned (sV a)) (w1.setCell ⟨b, 0, none⟩ (sV u)) from ⟨o1.set 0 (sV u), by rw [hu]; exact ⟨rfl, H.out⟩⟩)
    clear h1 o1 hu k1 c0 c1 c2 c3 d1 d2 d3
    go_wp2_with fail
    refine (need_yes _).mono ?_
    rintro e w2 ⟨rfl, rfl⟩
    go_wp2
    go_ret
    exact O.out
end Go.Proofs.YtflhmgnhjnaiiaaGreatDoor
/- Package xml: signs of names, names, local parts; a name that is taken, blanks. -/
set_option linter.unusedVariables false
namespace Go.Proofs.YtflhmgnhjnaiiaaGreatDoor
open Go.ChangeShapes Go.WideShapes Go.ChangeAt Go.RowKit
open En Xm
set_option maxRecDepth 100000 in
set_option maxHeartbeats 4000000 in
theorem beg_any (c : UInt8) (w : World) : Calls Tryz.prog 79 #[.int .u8 c.toNat] w fun e w' => e = .returned (.bool (sgn true c)) ∧ w = w' := by
  have hc := c.toNat_lt
  rcases (show (0 ≤ c.toNat ∧ c.toNat ≤ 64) ∨ (65 ≤ c.toNat ∧ c.toNat ≤ 90) ∨ (91 ≤ c.toNat ∧ c.toNat ≤ 94) ∨ (95 ≤ c.toNat ∧ c.toNat ≤ 95) ∨ (96 ≤ c.toNat ∧ c.toNat ≤ 96) ∨ (97 ≤ c.toNat ∧ c.toNat ≤ 122) ∨ (123 ≤ c.toNat ∧ c.toNat ≤ 255) by omega) with h | h | h | h | h | h | h
  · have HR := Lib.hid (show sgn true c = false from sgn_at true c 0 64 (by omega) (by omega) (by omega) (by decide +kernel))
    have g0 : decide (97 ≤ (c.toNat : Int)) = false := by simp; omega
    have g1 : decide ((c.toNat : Int) ≤ 122) = true := by simp; omega
    have g2 : decide (65 ≤ (c.toNat : Int)) = false := by simp; omega
    have g3 : decide ((c.toNat : Int) ≤ 90) = true := by simp; omega
    have g4 : ((c.toNat : Int) == 95) = false := by simp; omega
    clear h hc
    go_enter Tryz.func79, Tryz.ntmps79
    go_wp2
    go_ret
    exact ⟨by rw [HR.out]; rfl, rfl⟩
  · have HR := Lib.hid (show sgn true c = true from sgn_at true c 65 90 (by omega) (by omega) (by omega) (by decide +kernel))
    have g0 : decide (97 ≤ (c.toNat : Int)) = false := by simp; omega
    have g1 : decide ((c.toNat : Int) ≤ 122) = true := by simp; omega
    have g2 : decide (65 ≤ (c.toNat : Int)) = true := by simp; omega
    have g3 : decide ((c.toNat : Int) ≤ 90) = true := by simp; omega
    have g4 : ((c.toNat : Int) == 95) = false := by simp; omega
    clear h hc
    go_enter Tryz.func79, Tryz.ntmps79
    go_wp2
    go_ret
    exact ⟨by rw [HR.out]; rfl, rfl⟩
  · have HR := Lib.hid (show sgn true c = false from sgn_at true c 91 94 (by omega) (by omega) (by omega) (by decide +kernel))
    have g0 : decide (97 ≤ (c.toNat : Int)) = false := by simp; omega
    have g1 : decide ((c.toNat : Int) ≤ 122) = true := by simp; omega
    have g2 : decide (65 ≤ (c.toNat : Int)) = true := by simp; omega
    have g3 : decide ((c.toNat : Int) ≤ 90) = false := by simp; omega
    have g4 : ((c.toNat : Int) == 95) = false := by simp; omega
    clear h hc
    go_enter Tryz.func79, Tryz.ntmps79
    go_wp2
    go_ret
    exact ⟨by rw [HR.out]; rfl, rfl⟩
  · have HR := Lib.hid (show sgn true c = true from sgn_at true c 95 95 (by omega) (by omega) (by omega) (by decide +kernel))
    have g0 : decide (97 ≤ (c.toNat : Int)) = false := by simp; omega
    have g1 : decide ((c.toNat : Int) ≤ 122) = true := by simp; omega
    have g2 : decide (65 ≤ (c.toNat : Int)) = true := by simp; omega
    have g3 : decide ((c.toNat : Int) ≤ 90) = false := by simp; omega
    have g4 : ((c.toNat : Int) == 95) = true := by simp; omega
    clear h hc
    go_enter Tryz.func79, Tryz.ntmps79
    go_wp2
    go_ret
    exact ⟨by rw [HR.out]; rfl, rfl⟩
  · have HR := Lib.hid (show sgn true c = false from sgn_at true c 96 96 (by omega) (by omega) (by omega) (by decide +kernel))
    have g0 : decide (97 ≤ (c.toNat : Int)) = false := by simp; omega
    have g1 : decide ((c.toNat : Int) ≤ 122) = true := by simp; omega
    have g2 : decide (65 ≤ (c.toNat : Int)) = true := by simp; omega
    have g3 : decide ((c.toNat : Int) ≤ 90) = false := by simp; omega
    have g4 : ((c.toNat : Int) == 95) = false := by simp; omega
    clear h hc
    go_enter Tryz.func79, Tryz.ntmps79
    go_wp2
    go_ret
    exact ⟨by rw [HR.out]; rfl, rfl⟩
  · have HR := Lib.hid (show sgn true c = true from sgn_at true c 97 122 (by omega) (by omega) (by omega) (by decide +kernel))
    have g0 : decide (97 ≤ (c.toNat : Int)) = true := by simp; omega
    have g1 : decide ((c.toNat : Int) ≤ 122) = true := by simp; omega
    have g2 : decide (65 ≤ (c.toNat : Int)) = true := by simp; omega
    have g3 : decide ((c.toNat : Int) ≤ 90) = false := by simp; omega
    have g4 : ((c.toNat : Int) == 95) = false := by simp; omega
    clear h hc
    go_enter Tryz.func79, Tryz.ntmps79
    go_wp2
    go_ret
    exact ⟨by rw [HR.out]; rfl, rfl⟩
  · have HR := Lib.hid (show sgn true c = false from sgn_at true c 123 255 (by omega) (by omega) (by omega) (by decide +kernel))
    have g0 : decide (97 ≤ (c.toNat : Int)) = true := by simp; omega
    have g1 : decide ((c.toNat : Int) ≤ 122) = false := by simp; omega
    have g2 : decide (65 ≤ (c.toNat : Int)) = true := by simp; omega
    have g3 : decide ((c.toNat : Int) ≤ 90) = false := by simp; omega
    have g4 : ((c.toNat : Int) == 95) = false := by simp; omega
    clear h hc
    go_enter Tryz.func79, Tryz.ntmps79
    go_wp2
    go_ret
    exact ⟨by rw [HR.out]; rfl, rfl⟩
set_option maxRecDepth 100000 in
set_option maxHeartbeats 4000000 in
theorem ofn_any (c : UInt8) (w : World) : Calls Tryz.prog 78 #[.int .u8 c.toNat] w fun e w' => e = .returned (.bool (sgn false c)) ∧ w = w' := by
  have hc := c.toNat_lt
  rcases (show (0 ≤ c.toNat ∧ c.toNat ≤ 44) ∨ (45 ≤ c.toNat ∧ c.toNat ≤ 45) ∨ (46 ≤ c.toNat ∧ c.toNat ≤ 46) ∨ (47 ≤ c.toNat ∧ c.toNat ≤ 47) ∨ (48 ≤ c.toNat ∧ c.toNat ≤ 57) ∨ (58 ≤ c.toNat ∧ c.toNat ≤ 58) ∨ (59 ≤ c.toNat ∧ c.toNat ≤ 64) ∨ (65 ≤ c.toNat ∧ c.toNat ≤ 90) ∨ (91 ≤ c.toNat ∧ c.toNat ≤ 94) ∨ (95 ≤ c.toNat ∧ c.toNat ≤ 95) ∨ (96 ≤ c.toNat ∧ c.toNat ≤ 96) ∨ (97 ≤ c.toNat ∧ c.toNat ≤ 122) ∨ (123 ≤ c.toNat ∧ c.toNat ≤ 255) by omega) with h | h | h | h | h | h | h | h | h | h | h | h | h
  · have HR := Lib.hid (show sgn false c = false from sgn_at false c 0 44 (by omega) (by omega) (by omega) (by decide +kernel))
    have g0 : decide (48 ≤ (c.toNat : Int)) = false := by simp; omega
    have g1 : decide ((c.toNat : Int) ≤ 57) = true := by simp; omega
    have g2 : ((c.toNat : Int) == 45) = false := by simp; omega
    have g3 : ((c.toNat : Int) == 46) = false := by simp; omega
    have g4 : ((c.toNat : Int) == 58) = false := by simp; omega
    have HB := Lib.hid (show sgn true c = false from sgn_at true c 0 44 (by omega) (by omega) (by omega) (by decide +kernel))
    clear h hc
    go_enter Tryz.func78, Tryz.ntmps78
    go_wp2_with fail
    refine (beg_any c _).mono ?_
    rintro e w1 ⟨rfl, rfl⟩
    rw [HB.out]
    go_wp2
    go_ret
    exact ⟨by rw [HR.out]; rfl, rfl⟩
  · have HR := Lib.hid (show sgn false c = true from sgn_at false c 45 45 (by omega) (by omega) (by omega) (by decide +kernel))
    have g0 : decide (48 ≤ (c.toNat : Int)) = false := by simp; omega
    have g1 : decide ((c.toNat : Int) ≤ 57) = true := by simp; omega
    have g2 : ((c.toNat : Int) == 45) = true := by simp; omega
    have g3 : ((c.toNat : Int) == 46) = false := by simp; omega
    have g4 : ((c.toNat : Int) == 58) = false := by simp; omega
    have HB := Lib.hid (show sgn true c = false from sgn_at true c 45 45 (by omega) (by omega) (by omega) (by decide +kernel))
    clear h hc
    go_enter Tryz.func78, Tryz.ntmps78
    go_wp2_with fail
    refine (beg_any c _).mono ?_
    rintro e w1 ⟨rfl, rfl⟩
    rw [HB.out]
    go_wp2
    go_ret
    exact ⟨by rw [HR.out]; rfl, rfl⟩
  · have HR := Lib.hid (show sgn false c = true from sgn_at false c 46 46 (by omega) (by omega) (by omega) (by decide +kernel))
    have g0 : decide (48 ≤ (c.toNat : Int)) = false := by simp; omega
    have g1 : decide ((c.toNat : Int) ≤ 57) = true := by simp; omega
    have g2 : ((c.toNat : Int) == 45) = false := by simp; omega
    have g3 : ((c.toNat : Int) == 46) = true := by simp; omega
    have g4 : ((c.toNat : Int) == 58) = false := by simp; omega
    have HB := Lib.hid (show sgn true c = false from sgn_at true c 46 46 (by omega) (by omega) (by omega) (by decide +kernel))
    clear h hc
    go_enter Tryz.func78, Tryz.ntmps78
    go_wp2_with fail
    refine (beg_any c _).mono ?_
    rintro e w1 ⟨rfl, rfl⟩
    rw [HB.out]
    go_wp2
    go_ret
    exact ⟨by rw [HR.out]; rfl, rfl⟩
  · have HR := Lib.hid (show sgn false c = false from sgn_at false c 47 47 (by omega) (by omega) (by omega) (by decide +kernel))
    have g0 : decide (48 ≤ (c.toNat : Int)) = false := by simp; omega
    have g1 : decide ((c.toNat : Int) ≤ 57) = true := by simp; omega
    have g2 : ((c.toNat : Int) == 45) = false := by simp; omega
    have g3 : ((c.toNat : Int) == 46) = false := by simp; omega
    have g4 : ((c.toNat : Int) == 58) = false := by simp; omega
    have HB := Lib.hid (show sgn true c = false from sgn_at true c 47 47 (by omega) (by omega) (by omega) (by decide +kernel))
    clear h hc
    go_enter Tryz.func78, Tryz.ntmps78
    go_wp2_with fail
    refine (beg_any c _).mono ?_
    rintro e w1 ⟨rfl, rfl⟩
    rw [HB.out]
    go_wp2
    go_ret
    exact ⟨by rw [HR.out]; rfl, rfl⟩
  · have HR := Lib.hid (show sgn false c = true from sgn_at false c 48 57 (by omega) (by omega) (by omega) (by decide +kernel))
    have g0 : decide (48 ≤ (c.toNat : Int)) = true := by simp; omega
    have g1 : decide ((c.toNat : Int) ≤ 57) = true := by simp; omega
    have g2 : ((c.toNat : Int) == 45) = false := by simp; omega
    have g3 : ((c.toNat : Int) == 46) = false := by simp; omega
    have g4 : ((c.toNat : Int) == 58) = false := by simp; omega
    have HB := Lib.hid (show sgn true c = false from sgn_at true c 48 57 (by omega) (by omega) (by omega) (by decide +kernel))
    clear h hc
    go_enter Tryz.func78, Tryz.ntmps78
    go_wp2_with fail
    refine (beg_any c _).mono ?_
    rintro e w1 ⟨rfl, rfl⟩
    rw [HB.out]
    go_wp2
    go_ret
    exact ⟨by rw [HR.out]; rfl, rfl⟩
  · have HR := Lib.hid (show sgn false c = true from sgn_at false c 58 58 (by omega) (by omega) (by omega) (by decide +kernel))
    have g0 : decide (48 ≤ (c.toNat : Int)) = true := by simp; omega
    have g1 : decide ((c.toNat : Int) ≤ 57) = false := by simp; omega
    have g2 : ((c.toNat : Int) == 45) = false := by simp; omega
    have g3 : ((c.toNat : Int) == 46) = false := by simp; omega
    have g4 : ((c.toNat : Int) == 58) = true := by simp; omega
    have HB := Lib.hid (show sgn true c = false from sgn_at true c 58 58 (by omega) (by omega) (by omega) (by decide +kernel))
    clear h hc
    go_enter Tryz.func78, Tryz.ntmps78
    go_wp2_with fail
    refine (beg_any c _).mono ?_
    rintro e w1 ⟨rfl, rfl⟩
    rw [HB.out]
    go_wp2
    go_ret
    exact ⟨by rw [HR.out]; rfl, rfl⟩
  · have HR := Lib.hid (show sgn false c = false from sgn_at false c 59 64 (by omega) (by omega) (by omega) (by decide +kernel))
    have g0 : decide (48 ≤ (c.toNat : Int)) = true := by simp; omega
    have g1 : decide ((c.toNat : Int) ≤ 57) = false := by simp; omega
    have g2 : ((c.toNat : Int) == 45) = false := by simp; omega
    have g3 : ((c.toNat : Int) == 46) = false := by simp; omega
    have g4 : ((c.toNat : Int) == 58) = false := by simp; omega
    have HB := Lib.hid (show sgn true c = false from sgn_at true c 59 64 (by omega) (by omega) (by omega) (by decide +kernel))
    clear h hc
    go_enter Tryz.func78, Tryz.ntmps78
    go_wp2_with fail
    refine (beg_any c _).mono ?_
    rintro e w1 ⟨rfl, rfl⟩
    rw [HB.out]
    go_wp2
    go_ret
    exact ⟨by rw [HR.out]; rfl, rfl⟩
  · have HR := Lib.hid (show sgn false c = true from sgn_at false c 65 90 (by omega) (by omega) (by omega) (by decide +kernel))
    have g0 : decide (48 ≤ (c.toNat : Int)) = true := by simp; omega
    have g1 : decide ((c.toNat : Int) ≤ 57) = false := by simp; omega
    have g2 : ((c.toNat : Int) == 45) = false := by simp; omega
    have g3 : ((c.toNat : Int) == 46) = false := by simp; omega
    have g4 : ((c.toNat : Int) == 58) = false := by simp; omega
    have HB := Lib.hid (show sgn true c = true from sgn_at true c 65 90 (by omega) (by omega) (by omega) (by decide +kernel))
    clear h hc
    go_enter Tryz.func78, Tryz.ntmps78
    go_wp2_with fail
    refine (beg_any c _).mono ?_
    rintro e w1 ⟨rfl, rfl⟩
    rw [HB.out]
    go_wp2
    go_ret
    exact ⟨by rw [HR.out]; rfl, rfl⟩
  · have HR := Lib.hid (show sgn false c = false from sgn_at false c 91 94 (by omega) (by omega) (by omega) (by decide +kernel))
    have g0 : decide (48 ≤ (c.toNat : Int)) = true := by simp; omega
    have g1 : decide ((c.toNat : Int) ≤ 57) = false := by simp; omega
    have g2 : ((c.toNat : Int) == 45) = false := by simp; omega
    have g3 : ((c.toNat : Int) == 46) = false := by simp; omega
    have g4 : ((c.toNat : Int) == 58) = false := by simp; omega
    have HB := Lib.hid (show sgn true c = false from sgn_at true c 91 94 (by omega) (by omega) (by omega) (by decide +kernel))
    clear h hc
    go_enter Tryz.func78, Tryz.ntmps78
    go_wp2_with fail
    refine (beg_any c _).mono ?_
    rintro e w1 ⟨rfl, rfl⟩
    rw [HB.out]
    go_wp2
    go_ret
    exact ⟨by rw [HR.out]; rfl, rfl⟩
  · have HR := Lib.hid (show sgn false c = true from sgn_at false c 95 95 (by omega) (by omega) (by omega) (by decide +kernel))
    have g0 : decide (48 ≤ (c.toNat : Int)) = true := by simp; omega
    have g1 : decide ((c.toNat : Int) ≤ 57) = false := by simp; omega
    have g2 : ((c.toNat : Int) == 45) = false := by simp; omega
    have g3 : ((c.toNat : Int) == 46) = false := by simp; omega
    have g4 : ((c.toNat : Int) == 58) = false := by simp; omega
    have HB := Lib.hid (show sgn true c = true from sgn_at true c 95 95 (by omega) (by omega) (by omega) (by decide +kernel))
    clear h hc
    go_enter Tryz.func78, Tryz.ntmps78
    go_wp2_with fail
    refine (beg_any c _).mono ?_
    rintro e w1 ⟨rfl, rfl⟩
    rw [HB.out]
    go_wp2
    go_ret
    exact ⟨by rw [HR.out]; rfl, rfl⟩
  · have HR := Lib.hid (show sgn false c = false from sgn_at false c 96 96 (by omega) (by omega) (by omega) (by decide +kernel))
    have g0 : decide (48 ≤ (c.toNat : Int)) = true := by simp; omega
    have g1 : decide ((c.toNat : Int) ≤ 57) = false := by simp; omega
    have g2 : ((c.toNat : Int) == 45) = false := by simp; omega
    have g3 : ((c.toNat : Int) == 46) = false := by simp; omega
    have g4 : ((c.toNat : Int) == 58) = false := by simp; omega
    have HB := Lib.hid (show sgn true c = false from sgn_at true c 96 96 (by omega) (by omega) (by omega) (by decide +kernel))
    clear h hc
    go_enter Tryz.func78, Tryz.ntmps78
    go_wp2_with fail
    refine (beg_any c _).mono ?_
    rintro e w1 ⟨rfl, rfl⟩
    rw [HB.out]
    go_wp2
    go_ret
    exact ⟨by rw [HR.out]; rfl, rfl⟩
  · have HR := Lib.hid (show sgn false c = true from sgn_at false c 97 122 (by omega) (by omega) (by omega) (by decide +kernel))
    have g0 : decide (48 ≤ (c.toNat : Int)) = true := by simp; omega
    have g1 : decide ((c.toNat : Int) ≤ 57) = false := by simp; omega
    have g2 : ((c.toNat : Int) == 45) = false := by simp; omega
    have g3 : ((c.toNat : Int) == 46) = false := by simp; omega
    have g4 : ((c.toNat : Int) == 58) = false := by simp; omega
    have HB := Lib.hid (show sgn true c = true from sgn_at true c 97 122 (by omega) (by omega) (by omega) (by decide +kernel))
    clear h hc
    go_enter Tryz.func78, Tryz.ntmps78
    go_wp2_with fail
    refine (beg_any c _).mono ?_
    rintro e w1 ⟨rfl, rfl⟩
    rw [HB.out]
    go_wp2
    go_ret
    exact ⟨by rw [HR.out]; rfl, rfl⟩
  · have HR := Lib.hid (show sgn false c = false from sgn_at false c 123 255 (by omega) (by omega) (by omega) (by decide +kernel))
    have g0 : decide (48 ≤ (c.toNat : Int)) = true := by simp; omega
    have g1 : decide ((c.toNat : Int) ≤ 57) = false := by simp; omega
    have g2 : ((c.toNat : Int) == 45) = false := by simp; omega
    have g3 : ((c.toNat : Int) == 46) = false := by simp; omega
    have g4 : ((c.toNat : Int) == 58) = false := by simp; omega
    have HB := Lib.hid (show sgn true c = false from sgn_at true c 123 255 (by omega) (by omega) (by omega) (by decide +kernel))
    clear h hc
    go_enter Tryz.func78, Tryz.ntmps78
    go_wp2_with fail
    refine (beg_any c _).mono ?_
    rintro e w1 ⟨rfl, rfl⟩
    rw [HB.out]
    go_wp2
    go_ret
    exact ⟨by rw [HR.out]; rfl, rfl⟩
theorem while_none {p : UInt8 → Bool} {s : B} {k : Nat} {a : UInt8} (hI : (s.take k).all p = true) (ha : s[k]? = some a) (hp : p a = false) : s.takeWhile p = s.take k := by
  obtain ⟨hk, h2⟩ := List.getElem?_eq_some_iff.1 ha
  have e : s = s.take k ++ a :: s.drop (k + 1) := by
    conv => lhs; rw [← List.take_append_drop k s, List.drop_eq_getElem_cons hk, h2]
  conv => lhs; rw [e]
  rw [List.takeWhile_append_of_pos (fun x hx => List.all_eq_true.1 hI x hx), List.takeWhile_cons, if_neg (by rw [hp]; decide), List.append_nil]
theorem while_all {p : UInt8 → Bool} : ∀ {s : B}, s.all p = true → s.takeWhile p = s
  | [], _ => rfl
  | c :: r, h => by
    rw [List.all_cons, Bool.and_eq_true] at h
    rw [List.takeWhile_cons, if_pos h.1, while_all h.2]
theorem all_while {p : UInt8 → Bool} : ∀ {s : B}, s.takeWhile p = s → s.all p = true
  | [], _ => rfl
  | c :: r, h => by
    rw [List.takeWhile_cons] at h
    split at h
    · rename_i hc
      rw [List.cons.injEq] at h
      rw [List.all_cons, hc, all_while h.2]; rfl
    · cases h
theorem all_snoc {p : UInt8 → Bool} {s : B} {k : Nat} {a : UInt8} (hI : (s.take k).all p = true) (ha : s[k]? = some a) (hp : p a = true) : (s.take (k + 1)).all p = true := by
  rw [take_snoc ha, List.all_append, hI]; simp [hp]
set_option maxRecDepth 100000 in
theorem nby_any (s : B) (w : World) (hl : s.length ≤ 1000000) : Calls Tryz.prog 69 #[sV s] w fun e w' => e = .returned (iV (s.takeWhile (sgn false)).length) ∧ w = w' := by
  go_enter Tryz.func69, Tryz.ntmps69
  go_wp2_with fail
  go_loopw [6] (fun i wr => wr = w ∧ ∃ k : Nat, k ≤ s.length ∧ i = .int .i64 k ∧ Hid ((s.take k).all (sgn false) = true)) (fun i _ => s.length - (intOf i).toNat)
  case atStart => exact ⟨rfl, 0, Nat.zero_le _, rfl, Lib.hid rfl⟩
  case round =>
    obtain ⟨rfl, k, hk, rfl, hA⟩ := hrel
    by_cases hlt : k < s.length
    · obtain ⟨a, ha⟩ : ∃ a, s[k]? = some a := ⟨_, List.getElem?_eq_getElem hlt⟩
      have hat := byte_at s k a ha
      have HA := Lib.hid ha
      clear ha
      go_wp2_with fail
      refine (ofn_any a _).mono ?_
      rintro e w1 ⟨rfl, rfl⟩
      cases hs : sgn false a with
      | true =>
        have HS := Lib.hid (all_snoc hA.out HA.out hs)
        clear hs
        go_wp2
        go_roundw
        case rel => exact ⟨trivial, k + 1, hlt, by go_num, HS⟩
        case measure => simp [intOf]; omega
      | false =>
        have HS := Lib.hid (show (s.takeWhile (sgn false)).length = k by rw [while_none hA.out HA.out hs, List.length_take]; omega)
        clear hs
        go_wp2
        go_ret
        exact ⟨by rw [HS.out]; rfl, rfl⟩
    · have h1 : k = s.length := by omega
      have HS := Lib.hid (show (s.takeWhile (sgn false)).length = s.length by
        have := hA.out
        rw [h1, List.take_length] at this
        rw [while_all this])
      clear hA
      subst h1
      go_wp2
      go_ret
      exact ⟨by rw [HS.out]; rfl, rfl⟩
theorem sgn_more (c : UInt8) (h : sgn true c = true) : sgn false c = true := by
  unfold sgn at h ⊢
  simp only [Bool.or_eq_true, Bool.not_true, Bool.false_and, Bool.or_false] at h ⊢
  exact Or.inl h
theorem all_len {p : UInt8 → Bool} (s : B) : ((s.takeWhile p).length = s.length) ↔ s.all p = true := by
  constructor
  · intro h
    have e : s.takeWhile p = s := (List.takeWhile_prefix (l := s) p).eq_of_length h
    exact all_while e
  · intro h; rw [while_all h]
set_option maxRecDepth 100000 in
theorem pname_any (s : B) (w : World) (hl : s.length ≤ 1000000) : Calls Tryz.prog 70 #[sV s] w fun e w' => e = .returned (.bool (isN s)) ∧ w = w' := by
  cases s with
  | nil =>
    go_enter Tryz.func70, Tryz.ntmps70
    go_wp2
    go_ret
    exact ⟨rfl, rfl⟩
  | cons c r =>
    have hse : (c :: r).isEmpty = false := rfl
    have hpos : 0 < (c :: r).length := by simp
    have hposI : (0 : Int) < (c :: r).length := by simp
    have hne : (c :: r) ≠ [] := by simp
    have hat := byte_at (c :: r) 0 c rfl
    have HN := Lib.hid (show isN (c :: r) = (decide ((c :: r).length ≤ 60) && (sgn true c && decide (((c :: r).takeWhile (sgn false)).length = (c :: r).length))) by
      unfold isN
      rw [show allN (c :: r) = (sgn true c && r.all (sgn false)) from rfl]
      rw [show decide (1 ≤ (c :: r).length) = true by simp, Bool.true_and]
      congr 1
      cases h1 : sgn true c with
      | false => rfl
      | true =>
        rw [Bool.true_and, Bool.true_and]
        rw [show r.all (sgn false) = (c :: r).all (sgn false) by rw [List.all_cons, sgn_more c h1, Bool.true_and]]
        rw [Bool.eq_iff_iff, decide_eq_true_eq, all_len])
    generalize hS : c :: r = s at *
    clear hS
    have hd : decide ((s.length : Int) ≤ 60) = decide (s.length ≤ 60) := by rw [decide_eq_decide]; omega
    by_cases h60 : s.length ≤ 60
    · have hd1 : decide ((s.length : Int) ≤ 60) = true := by rw [hd]; exact decide_eq_true h60
      rw [decide_eq_true h60, Bool.true_and] at HN
      have h60I : (s.length : Int) ≤ 60 := by omega
      clear hd h60
      go_enter Tryz.func70, Tryz.ntmps70
      go_wp2_with fail
      refine (beg_any c _).mono ?_
      rintro e w1 ⟨rfl, rfl⟩
      generalize sgn true c = q at *
      cases q with
      | false =>
        rw [Bool.false_and] at HN
        go_wp2
        go_ret
        exact ⟨by rw [HN.out]; rfl, rfl⟩
      | true =>
        rw [Bool.true_and] at HN
        go_wp2_with fail
        refine (nby_any s _ hl).mono ?_
        rintro e w1 ⟨rfl, rfl⟩
        generalize (s.takeWhile (sgn false)).length = m at *
        by_cases hm : m = s.length
        · have hb : ((m : Int) == s.length) = true := by simp; omega
          rw [decide_eq_true hm] at HN
          clear hm
          go_wp2
          go_ret
          exact ⟨by rw [HN.out]; rfl, rfl⟩
        · have hb : ((m : Int) == s.length) = false := by simp; omega
          rw [decide_eq_false hm] at HN
          clear hm
          go_wp2
          go_ret
          exact ⟨by rw [HN.out]; rfl, rfl⟩
    · have hd1 : decide ((s.length : Int) ≤ 60) = false := by rw [hd]; exact decide_eq_false h60
      rw [decide_eq_false h60, Bool.false_and] at HN
      clear hd h60
      go_enter Tryz.func70, Tryz.ntmps70
      go_wp2
      go_ret
      exact ⟨by rw [HN.out]; rfl, rfl⟩
theorem locF_no : ∀ (s cur : B), (58 : UInt8) ∉ s → locF cur s = cur
  | [], cur, _ => rfl
  | c :: r, cur, h => by
    simp only [List.mem_cons, not_or] at h
    rw [locF, if_neg (fun e => h.1 e.symm)]
    exact locF_no r cur h.2
theorem locF_at : ∀ (a b cur : B), (58 : UInt8) ∉ b → locF cur (a ++ 58 :: b) = b
  | [], b, cur, h => by rw [List.nil_append, locF, if_pos rfl]; exact locF_no b b h
  | c :: a, b, cur, h => by
    rw [List.cons_append, locF]
    split
    · exact locF_at a b _ h
    · exact locF_at a b _ h
theorem getb (s : B) (j : Nat) (h : j < s.length) : ((ByteArray.mk s.toArray).data[j]!) = s[j] := by
  simp [h]
theorem lix_loc (s : B) : ∃ k : Nat, Lib.lastIndexByte ⟨s.toArray⟩ 58 + 1 = (k : Int) ∧ k ≤ s.length ∧ s.drop k = loc s := by
  have hsz : (ByteArray.mk s.toArray).size = s.length := List.size_toArray
  unfold Lib.lastIndexByte
  rcases Lib.lastIdx_spec ⟨s.toArray⟩ 58 (ByteArray.mk s.toArray).size with ⟨h1, h2⟩ | ⟨i, hi, h1, h2, h3⟩
  · refine ⟨0, by rw [h1]; rfl, Nat.zero_le _, ?_⟩
    have : (58 : UInt8) ∉ s := by
      intro hm
      obtain ⟨j, hj, he⟩ := List.getElem_of_mem hm
      have := h2 j (by omega)
      rw [getb s j hj, he] at this
      exact this rfl
    rw [List.drop_zero]; unfold loc; rw [locF_no _ _ this]
  · have hi' : i < s.length := by omega
    refine ⟨i + 1, by rw [h1]; rfl, hi', ?_⟩
    rw [getb s i hi'] at h2
    have hn : (58 : UInt8) ∉ s.drop (i + 1) := by
      intro hm
      obtain ⟨j, hj, he⟩ := List.getElem_of_mem hm
      rw [List.length_drop] at hj
      rw [List.getElem_drop] at he
      have := h3 (i + 1 + j) (by omega) (by omega)
      rw [getb s _ (by omega), he] at this
      exact this rfl
    have e : s = s.take i ++ 58 :: s.drop (i + 1) := by
      conv => lhs; rw [← List.take_append_drop i s, List.drop_eq_getElem_cons hi']
      rw [show s[i] = 58 from u8_eq h2]
    unfold loc
    conv => rhs; arg 2; rw [e]
    rw [locF_at _ _ _ hn]
set_option maxRecDepth 100000 in
theorem plocal_any (s : B) (w : World) (hl : s.length ≤ 1000000) : Calls Tryz.prog 49 #[sV s] w fun e w' => e = .returned (sV (loc s)) ∧ w = w' := by
  have hsz : (ByteArray.mk s.toArray).size = s.length := List.size_toArray
  obtain ⟨k, hk, hks, hd⟩ := lix_loc s
  have hsl := cut_from s (k : Int) k rfl hks
  rw [hd] at hsl
  generalize hx : Lib.lastIndexByte ⟨s.toArray⟩ 58 = x at *
  have hxk : x = (k : Int) - 1 := by omega
  subst hxk
  have e1 : (k : Int) - 1 + 1 = k := by omega
  clear hk hd
  go_enter Tryz.func49, Tryz.ntmps49
  go_wp2_with fail
  refine (Tryz.strings_LastIndexByte ⟨s.toArray⟩ 58 (by omega) _).mono ?_
  rintro e w1 ⟨rfl, rfl⟩
  rw [hx]
  clear hx
  go_wp2
  go_ret
  exact ⟨rfl, rfl⟩
/-! the reader's name, blanks -/
theorem nm_prog (r : B) : isN (r.takeWhile (sgn false)) = isN (nmS r).1 ∧ (isN (nmS r).1 = true → nmS r = (r.takeWhile (sgn false), r.dropWhile (sgn false))) := by
  cases r with
  | nil => exact ⟨rfl, fun _ => rfl⟩
  | cons c r =>
    cases hc : sgn true c with
    | true =>
      have h2 := sgn_more c hc
      have e : nmS (c :: r) = ((c :: r).takeWhile (sgn false), (c :: r).dropWhile (sgn false)) := by
        rw [nmS, if_pos hc, List.takeWhile_cons, List.dropWhile_cons, if_pos h2, if_pos h2]
      rw [e]
      exact ⟨rfl, fun _ => rfl⟩
    | false =>
      have e : nmS (c :: r) = ([], c :: r) := by rw [nmS, if_neg (by rw [hc]; decide)]
      rw [e]
      have h1 : isN (([], c :: r) : B × B).1 = false := rfl
      rw [h1]
      refine ⟨?_, fun h => by cases h⟩
      rw [List.takeWhile_cons]
      split
      · unfold isN
        rw [show allN (c :: r.takeWhile (sgn false)) = (sgn true c && (r.takeWhile (sgn false)).all (sgn false)) from rfl, hc]; simp
      · rfl
/-- a name that is taken, or a fault -/
def PNm (b : Nat) (r : B) (ov : Value) (g : Bool) (lv : Value) (w : World) (e : Ending) (w' : World) : Prop :=
  Ob b w w' ∧ if isN (nmS r).1 = true then e = .returned (sV (nmS r).1) ∧ PB b (nmS r).2 ov g lv w' else e = gon 2
set_option maxRecDepth 100000 in
theorem ptname_any (b : Nat) (r : B) (ov : Value) (g : Bool) (lv : Value) (w : World) (h : PB b r ov g lv w) (hs : r.length ≤ 1000000) :
    Calls Tryz.prog 56 #[pV b] w (PNm b r ov g lv w) := by
  obtain ⟨c0, c1, c2, c3⟩ := h.cs
  have f0 := h.fz 0
  obtain ⟨t1, t2⟩ := take_while_len (sgn false) r
  obtain ⟨n1, n2⟩ := nm_prog r
  have hle : (r.takeWhile (sgn false)).length ≤ r.length := (List.takeWhile_prefix _).length_le
  have hto := cut_to r (r.takeWhile (sgn false)).length hle
  have hfr := cut_from r ((r.takeWhile (sgn false)).length : Nat) _ rfl hle
  rw [t1] at hto
  rw [t2] at hfr
  have H := Lib.hid (h.setR (r.dropWhile (sgn false)))
  have O := Lib.hid ((Ob.refl b w).set 0 (sV (r.dropWhile (sgn false))))
  have HP := Lib.hid (fun (e : Ending) (w' : World) (o : Ob b w w') (h1 : isN (r.takeWhile (sgn false)) = true → e = .returned (sV (r.takeWhile (sgn false))) ∧ PB b (r.dropWhile (sgn false)) ov g lv w') (h2 : isN (r.takeWhile (sgn false)) = false → e = gon 2) => show PNm b r ov g lv w e w' from ⟨o, by
    cases hq : isN (nmS r).1 with
    | true =>
      rw [if_pos rfl, n2 hq]
      exact h1 (by rw [n1]; exact hq)
    | false =>
      rw [if_neg (by decide)]
      exact h2 (by rw [n1]; exact hq)⟩)
  have hnl : (r.takeWhile (sgn false)).length ≤ 1000000 := by omega
  clear h c1 c2 c3 t1 t2 n1 n2
  go_enter Tryz.func56, Tryz.ntmps56
  go_wp2_with fail
  refine (nby_any r _ hs).mono ?_
  rintro e w1 ⟨rfl, rfl⟩
  generalize r.takeWhile (sgn false) = t at *
  generalize r.dropWhile (sgn false) = u at *
  go_wp2_with fail
  refine (pname_any t _ hnl).mono ?_
  rintro e w1 ⟨rfl, rfl⟩
  cases hq : isN t with
  | false =>
    have Z := Lib.hid (HP.out (gon 2) w (Ob.refl b w) (fun h => by rw [hq] at h; cases h) (fun _ => rfl))
    clear hq HP
    go_wp2_with fail
    refine (need_no _).mono ?_
    rintro e w1 ⟨rfl, rfl⟩
    exact ⟨rfl, Z.out⟩
  | true =>
    have Z := Lib.hid (HP.out (.returned (sV t)) _ O.out (fun _ => ⟨rfl, H.out⟩) (fun h => by rw [hq] at h; cases h))
    clear hq HP H O
    go_wp2_with fail
    refine (need_yes _).mono ?_
    rintro e w1 ⟨rfl, rfl⟩
    go_wp2
    go_ret
    exact Z.out
/-- blanks are taken: was there one? -/
def PBl (b : Nat) (r : B) (ov : Value) (g : Bool) (lv : Value) (w : World) (e : Ending) (w' : World) : Prop :=
  e = .returned (.bool (decide ((skip r).length < r.length))) ∧ PB b (skip r) ov g lv w' ∧ Ob b w w'
set_option maxRecDepth 100000 in
set_option maxHeartbeats 1000000 in
theorem pblanks_any (b : Nat) (r : B) (ov : Value) (g : Bool) (lv : Value) (w : World) (h : PB b r ov g lv w) (hs : r.length ≤ 1000000) :
    Calls Tryz.prog 57 #[pV b] w (PBl b r ov g lv w) := by
  obtain ⟨c0, c1, c2, c3⟩ := h.cs
  have f0 := h.fz 0
  obtain ⟨t1, t2⟩ := take_while_len spB r
  have hle : (r.takeWhile spB).length ≤ r.length := (List.takeWhile_prefix _).length_le
  have hlen : (r.takeWhile spB).length + (skip r).length = r.length := by
    unfold skip
    rw [← List.length_append, List.takeWhile_append_dropWhile]
  have hfr := cut_from r ((r.takeWhile spB).length : Nat) _ rfl hle
  rw [t2] at hfr
  have HP := Lib.hid (show PBl b r ov g lv w (.returned (.bool (decide (0 < (r.takeWhile spB).length)))) (w.setCell ⟨b, 0, none⟩ (sV (skip r))) from ⟨by
    congr 2
    rw [decide_eq_decide]; omega, h.setR _, (Ob.refl b w).set 0 _⟩)
  clear h c1 c2 c3 t1 t2 hlen
  have hsk : r.dropWhile spB = skip r := rfl
  rw [hsk] at hfr
  clear hsk
  generalize skip r = u at *
  have HT : ∀ k a, r[k]? = some a → (r.take k).all spB = true → spB a = false → (r.takeWhile spB).length = k := fun k a ha hI hp => by
    have hk := (List.getElem?_eq_some_iff.1 ha).1
    rw [while_none hI ha hp, List.length_take]; omega
  have HE : r.all spB = true → (r.takeWhile spB).length = r.length := fun h => by rw [while_all h]
  have HTE := Lib.hid (And.intro HT HE)
  clear HT HE
  generalize (r.takeWhile spB).length = m at *
  go_enter Tryz.func57, Tryz.ntmps57
  go_wp2_with fail
  go_loopw [3] (fun i wr => wr = w ∧ ∃ k : Nat, k ≤ r.length ∧ i = .int .i64 k ∧ Hid ((r.take k).all spB = true)) (fun i _ => r.length - (intOf i).toNat)
  case atStart => exact ⟨rfl, 0, Nat.zero_le _, rfl, Lib.hid rfl⟩
  case round =>
    obtain ⟨rfl, k, hk, rfl, hA⟩ := hrel
    by_cases hlt : k < r.length
    · obtain ⟨a, ha⟩ : ∃ a, r[k]? = some a := ⟨_, List.getElem?_eq_getElem hlt⟩
      have hat := byte_at r k a ha
      have HA := Lib.hid ha
      have hd : decide ((k : Int) < r.length) = true := decide_eq_true (by omega)
      clear ha
      go_wp2_with fail
      refine (space_any a _).mono ?_
      rintro e w1 ⟨rfl, rfl⟩
      cases hq : spB a with
      | true =>
        have HS := Lib.hid (all_snoc hA.out HA.out hq)
        clear hq
        go_wp2
        go_roundw
        case rel => exact ⟨trivial, k + 1, hlt, by go_num, HS⟩
        case measure => simp [intOf]; omega
      | false =>
        have hm := HTE.out.1 k a HA.out hA.out hq
        clear hq HTE
        subst hm
        go_wp2
        go_ret
        exact HP.out
    · have hm := HTE.out.2 (by have := hA.out; rwa [List.take_of_length_le (by omega)] at this)
      have hmk : m = k := by omega
      have hd : decide ((k : Int) < r.length) = false := decide_eq_false (by omega)
      clear HTE hm
      subst hmk
      go_wp2
      go_ret
      exact HP.out
theorem ptag_any (b : Nat) (r : B) (ov : Value) (g : Bool) (lv : Value) (w : World) (h : PB b r ov g lv w) :
    Calls Tryz.prog 71 #[pV b] w fun e w' => e = .returned (.bool (mEnd r)) ∧ w = w' := by
  obtain ⟨c0, c1, c2, c3⟩ := h.cs
  have HM := Lib.hid (pEnd_eq r)
  clear h c1 c2 c3
  go_enter Tryz.func71, Tryz.ntmps71
  go_wp2_with fail
  refine (hasp_any r [47] _).mono ?_
  rintro e w1 ⟨rfl, rfl⟩
  generalize ([47] : B).isPrefixOf r = q at *
  cases q with
  | true =>
    go_wp2
    go_ret
    exact ⟨by rw [HM.out]; rfl, rfl⟩
  | false =>
    go_wp2_with fail
    refine (hasp_any r [62] _).mono ?_
    rintro e w1 ⟨rfl, rfl⟩
    generalize ([62] : B).isPrefixOf r = q at *
    go_wp2
    go_ret
    exact ⟨by rw [HM.out]; rfl, rfl⟩
end Go.Proofs.YtflhmgnhjnaiiaaGreatDoor
