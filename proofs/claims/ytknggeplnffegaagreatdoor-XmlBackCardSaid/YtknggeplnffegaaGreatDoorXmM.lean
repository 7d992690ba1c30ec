/- The document's own answers of layer xml: pieces and open elements in slices of the call's own; text, close. -/
import Derived.Test.YtknggeplnffegaaGreatDoorXmY
import Derived.Laws.AppendOwnNone
set_option linter.unusedVariables false
namespace Go.Proofs.YtknggeplnffegaaGreatDoor
open Go.ChangeShapes Go.WideShapes Go.ChangeAt Go.RowKit
open En Xm
theorem infoS : (Tryz.prog.info? 9).map (fun i => (i.zero, i.size, i.bytes)) = some (some (.string ⟨#[]⟩), 1, 16) := by kernel_rfl
theorem infoA : (Tryz.prog.info? 44).map (fun i => (i.zero, i.size, i.bytes)) = some (some (.agg #[.string ⟨#[]⟩, .string ⟨#[]⟩]), 2, 32) := by kernel_rfl
theorem infoT : (Tryz.prog.info? 38).map (fun i => (i.zero, i.size, i.bytes)) = some (some (.agg #[.int .i64 0, .string ⟨#[]⟩, .string ⟨#[]⟩, .slice none 0 0]), 4, 64) := by kernel_rfl
/-- texts in a slice of the call's own -/
def OwnS (B0 : Nat) (v : Value) (ls : List B) (w : World) : Prop := w.ownsRow B0 9 1 v ls.length (ls.map sV)
/-- attributes -/
def AtsO (B0 : Nat) (v : Value) (al : List Atr) (w : World) : Prop := w.ownsRow B0 44 2 v al.length (al.flatMap fun a => [sV a.1, sV a.2])
def tkCells (l : List Tk) (vs : List Value) : List Value := (l.zip vs).flatMap fun p => [iV p.1.1, sV p.1.2.1, sV p.1.2.2.1, p.2]
def AllA (B0 : Nat) (vs : List Value) (l : List Tk) (w : World) : Prop := ∀ (i : Nat) (t : Tk) (x : Value), l[i]? = some t → vs[i]? = some x → AtsO B0 x t.2.2.2 w
/-- pieces -/
def TokO (B0 : Nat) (v : Value) (l : List Tk) (w : World) : Prop :=
  ∃ vs : List Value, vs.length = l.length ∧ w.ownsRow B0 38 4 v l.length (tkCells l vs) ∧ AllA B0 vs l w
theorem own_kind {w : World} {B0 : Nat} {e : TypeId} {size : Nat} {v : Value} {n : Nat} {xs : List Value} (h : w.ownsRow B0 e size v n xs) : ∀ g, v.ownBlock = some g → ∃ c, w.heap[g]? = some (.cells c e (0, 0)) := by
  intro g hg
  rcases h.2 with ⟨rfl, _⟩ | ⟨g', cap, cur, rfl, _, hh, _⟩
  · simp [Value.ownBlock] at hg
  · simp [Value.ownBlock] at hg
    subst hg
    exact ⟨cur, hh⟩
/-- what turns is a row of none of these types -/
def NoRow (e : TypeId) (w : World) (row : Option Nat) : Prop := ∀ r, row = some r → ∀ c, w.heap[r]? ≠ some (.cells c e (0, 0))
theorem own_keep {w w' : World} {B0 : Nat} {e : TypeId} {size : Nat} {v : Value} {n : Nat} {xs : List Value} {row : Option Nat} (h : w.ownsRow B0 e size v n xs) (hg : w.grownBy w' row) (hr : NoRow e w row) : w'.ownsRow B0 e size v n xs := by
  refine World.ownsRow.kept h hg ?_
  cases hv : v.ownBlock with
  | none => exact Or.inl rfl
  | some g =>
    refine Or.inr (fun e' => ?_)
    obtain ⟨c, hc⟩ := own_kind h g hv
    exact hr g e'.symm c hc
theorem NoRow.none {e : TypeId} {w : World} : NoRow e w none := fun r h => by cases h
theorem NoRow.of {e e' : TypeId} {w : World} {r : Nat} {c : Array Value} {fz : Nat × Nat} (h : w.heap[r]? = some (.cells c e' fz)) (hne : e' ≠ e) : NoRow e w (some r) := fun r' h' c' hc => by
  cases h'
  rw [h] at hc
  cases hc
  exact hne rfl
theorem NoRow.own {w : World} {B0 : Nat} {e e' : TypeId} {size : Nat} {v : Value} {n : Nat} {xs : List Value} (h : w.ownsRow B0 e' size v n xs) (hne : e' ≠ e) : NoRow e w v.ownBlock := fun r hr c hc => by
  obtain ⟨c', hc'⟩ := own_kind h r hr
  rw [hc'] at hc
  cases hc
  exact hne rfl
theorem NoRow.fresh {e : TypeId} {w : World} {r : Nat} (h : w.heap.size ≤ r) : NoRow e w (some r) := fun r' h' c hc => by
  cases h'
  have := (Array.getElem?_eq_some_iff.1 hc).1
  omega
theorem OwnS.keep {w w' : World} {B0 : Nat} {v : Value} {ls : List B} {row : Option Nat} (h : OwnS B0 v ls w) (hg : w.grownBy w' row) (hr : NoRow 9 w row) : OwnS B0 v ls w' := own_keep h hg hr
theorem AllA.keep {w w' : World} {B0 : Nat} {vs : List Value} {l : List Tk} {row : Option Nat} (h : AllA B0 vs l w) (hg : w.grownBy w' row) (hr : NoRow 44 w row) : AllA B0 vs l w' :=
  fun i t x h1 h2 => own_keep (h i t x h1 h2) hg hr
theorem TokO.keep {w w' : World} {B0 : Nat} {v : Value} {l : List Tk} {row : Option Nat} (h : TokO B0 v l w) (hg : w.grownBy w' row) (hr : NoRow 44 w row) (hr2 : NoRow 38 w row) : TokO B0 v l w' := by
  obtain ⟨vs, h1, h2, h3⟩ := h
  exact ⟨vs, h1, own_keep h2 hg hr2, h3.keep hg hr⟩
theorem Ob.grown {b : Nat} {w w' : World} (h : Ob b w w') : w.grownBy w' (some b) := ⟨h.os, h.tape, h.output, h.size, fun k hk hne => h.block k hk (fun e => hne (by rw [e]))⟩
/-- the reader, whole -/
def RS (B0 b : Nat) (s : B) (at0 : Nat) (o : List B) (n : Nat) (l : List Tk) (e : Int) (w : World) : Prop :=
  B0 ≤ b ∧ B0 ≤ w.heap.size ∧ ∃ ov lv, Rd b s at0 ov n lv e w ∧ OwnS B0 ov o w ∧ TokO B0 lv l w
theorem RS.ob {B0 b : Nat} {s : B} {at0 at1 : Nat} {o : List B} {n n1 : Nat} {l : List Tk} {e e1 : Int} {ov lv : Value} {w w' : World} (hB : B0 ≤ b) (hB2 : B0 ≤ w.heap.size) (hr : Rd b s at0 ov n lv e w) (ho : OwnS B0 ov o w) (hl : TokO B0 lv l w) (k : Ob b w w') (hr' : Rd b s at1 ov n1 lv e1 w') : RS B0 b s at1 o n1 l e1 w' :=
  ⟨hB, Nat.le_trans hB2 k.size, ov, lv, hr', ho.keep k.grown (NoRow.of hr (by decide)), hl.keep k.grown (NoRow.of hr (by decide)) (NoRow.of hr (by decide))⟩
theorem tkCells_snoc {l : List Tk} {vs : List Value} (h : vs.length = l.length) (t : Tk) (x : Value) : tkCells (l ++ [t]) (vs ++ [x]) = tkCells l vs ++ [iV t.1, sV t.2.1, sV t.2.2.1, x] := by
  unfold tkCells
  rw [List.zip_append h.symm, List.flatMap_append]
  rfl
theorem AllA.snoc {B0 : Nat} {vs : List Value} {l : List Tk} {w : World} (h : AllA B0 vs l w) (hl : vs.length = l.length) {t : Tk} {x : Value} (hx : AtsO B0 x t.2.2.2 w) : AllA B0 (vs ++ [x]) (l ++ [t]) w := by
  intro i t' x' h1 h2
  by_cases q : i < l.length
  · rw [List.getElem?_append_left q] at h1
    rw [List.getElem?_append_left (by omega)] at h2
    exact h i t' x' h1 h2
  · rw [List.getElem?_append_right (by omega)] at h1
    rw [List.getElem?_append_right (by omega), hl] at h2
    have hi : i - l.length = 0 := by
      by_cases q2 : i - l.length = 0
      · exact q2
      · rw [List.getElem?_eq_none (by simp; omega)] at h1; cases h1
    rw [hi] at h1 h2
    simp only [List.getElem?_cons_zero, Option.some.injEq] at h1 h2
    subst h1 h2
    exact hx
/-- a piece more -/
theorem TokO.snoc {B0 : Nat} {v v' : Value} {l : List Tk} {w w' : World} {t : Tk} {x : Value} {vs : List Value} (hv : vs.length = l.length) (ho : w.ownsRow B0 38 4 v l.length (tkCells l vs)) (ha : AllA B0 vs l w) (hx : AtsO B0 x t.2.2.2 w)
    (hg : w.grownBy w' v.ownBlock) (h7 : w'.ownsRow B0 38 4 v' (l.length + 1) (tkCells l vs ++ [iV t.1, sV t.2.1, sV t.2.2.1, x])) : TokO B0 v' (l ++ [t]) w' := by
  refine ⟨vs ++ [x], by simp [hv], ?_, ?_⟩
  · rw [tkCells_snoc hv, List.length_append]; exact h7
  · exact (ha.keep hg (NoRow.own ho (by decide))).snoc hv (own_keep hx hg (NoRow.own ho (by decide)))
theorem AtsO.nil (B0 : Nat) (w : World) : AtsO B0 (.slice none 0 0) [] w := World.ownsRow_nil _ _ _ _
theorem grown_none {w w' : World} {row : Option Nat} (h : w.grownBy w' none) : w.grownBy w' row := ⟨h.os, h.tape, h.output, h.size, fun k hk _ => h.block k hk (by simp)⟩
theorem own_slice {w : World} {B0 : Nat} {e : TypeId} {size : Nat} {v : Value} {n : Nat} {xs : List Value} (h : w.ownsRow B0 e size v n xs) : ∃ ao cap, v = .slice ao n cap := by
  rcases h.2 with ⟨h1, h2⟩ | ⟨g, cap, _, h1, _⟩
  · exact ⟨none, 0, by rw [h1, h2]⟩
  · exact ⟨_, _, h1⟩
theorem Rd.grow {b : Nat} {s : B} {at0 : Nat} {ov : Value} {n : Nat} {lv : Value} {e : Int} {w w' : World} {row : Option Nat} (h : Rd b s at0 ov n lv e w) (hg : w.grownBy w' row) (hr : NoRow 48 w row) : Rd b s at0 ov n lv e w' :=
  (hg.block b h.lt (fun e' => hr b e'.symm _ h)).trans h
/-- the pieces grown, the reader holds them -/
theorem push_fin {B0 b : Nat} {s : B} {at0 : Nat} {o : List B} {n : Nat} {l : List Tk} {e : Int} {ov lv v' xa : Value} {vs : List Value} {t : Tk} {x w7 : World} (hB : B0 ≤ b) (hBx : B0 ≤ x.heap.size) (hR : Rd b s at0 ov n lv e x) (hO : OwnS B0 ov o x)
    (hvs : vs.length = l.length) (hT : x.ownsRow B0 38 4 lv l.length (tkCells l vs)) (hA : AllA B0 vs l x) (hx : AtsO B0 xa t.2.2.2 x) (hg : x.grownBy w7 lv.ownBlock)
    (h7 : w7.ownsRow B0 38 4 v' (l.length + 1) (tkCells l vs ++ [iV t.1, sV t.2.1, sV t.2.2.1, xa])) :
    RS B0 b s at0 o n (l ++ [t]) e (w7.setCell ⟨b, 4, none⟩ v') ∧ Below B0 x (w7.setCell ⟨b, 4, none⟩ v') := by
  have hR7 := hR.grow hg (NoRow.own hT (by decide))
  have hO7 := hO.keep hg (NoRow.own hT (by decide))
  have hT7 := TokO.snoc hvs hT hA hx hg h7
  have hb : Below B0 x w7 := (Below.refl B0 x).grown hg hBx (fun k hk => (World.ownsRow.lt hT k hk).1)
  have hB7 : B0 ≤ w7.heap.size := Nat.le_trans hBx hg.size
  refine ⟨⟨hB, by simpa [World.setCell] using hB7, ov, v', hR7.setL v', ?_, ?_⟩, hb.setCell (p := ⟨b, 4, none⟩) hB v'⟩
  · exact hO7.keep ((Ob.refl b w7).set 4 v').grown (NoRow.of hR7 (by decide))
  · exact hT7.keep ((Ob.refl b w7).set 4 v').grown (NoRow.of hR7 (by decide)) (NoRow.of hR7 (by decide))
set_option maxRecDepth 100000 in
set_option maxHeartbeats 2000000 in
theorem rtext_any (B0 b : Nat) (s t : B) (at0 : Nat) (o : List B) (n : Nat) (l : List Tk) (e : Int) (w : World) (h : RS B0 b s at0 o n l e w) (hl : l.length ≤ 1000000) (hol : o.length ≤ 1000) :
    Calls Tryz.prog 39 #[pV b, sV t] w fun r w' => r = .returned (.tuple #[]) ∧ RS B0 b s at0 o n (put t o l) e w' ∧ Below B0 w w' := by
  have hh := h
  obtain ⟨hB, hB2, ov, lv, hR, hO, vs, hvs, hT, hA⟩ := h
  by_cases ht : t = []
  · subst ht
    have hp : put [] o l = l := by unfold put; simp
    rw [hp]
    have HH := Lib.hid hh
    clear hh hR hO hT hA
    go_enter Tryz.func39, Tryz.ntmps39
    go_wp2
    refine bodyPost_ret (results_none rfl _ _ _) rfl ?_
    exact ⟨rfl, HH.out, Below.refl _ _⟩
  have hte : t.isEmpty = false := by simpa using ht
  obtain ⟨oa, oc, hov⟩ := own_slice hO
  obtain ⟨c0, c1, c2, c3, c4, c5⟩ := hR.cs
  rw [hov] at c2
  by_cases ho : o = []
  · have hp : put t o l = l := by unfold put; simp [ho]
    rw [hp]
    have HH := Lib.hid hh
    have hlen : o.length = 0 := by rw [ho]; rfl
    clear hh hR hO hT hA
    go_enter Tryz.func39, Tryz.ntmps39
    go_wp2
    go_end0
    exact ⟨rfl, HH.out, Below.refl _ _⟩
  have hp : put t o l = l ++ [tX t] := by unfold put; rw [if_neg (by simp [ht, ho])]
  rw [hp]
  have hlen : (0 : Int) < o.length := by have := List.length_pos_iff.2 ho; omega
  obtain ⟨i0, hi, hz0, hz1, hz2⟩ := info_parts infoT
  have x1 := World.grownBy_alloc w (.cells #[iV 2, sV [], sV t, .slice none 0 0] 38) none
  have hTx := Lib.hid (World.ownsRow.alloc hT (.cells #[iV 2, sV [], sV t, .slice none 0 0] 38))
  have hAx := Lib.hid (hA.keep x1 NoRow.none)
  have hRx := Lib.hid (hR.kept ((Kept.refl w).alloc (.cells #[iV 2, sV [], sV t, .slice none 0 0] 38)))
  have hOx := Lib.hid (hO.keep x1 NoRow.none)
  have hbx := Lib.hid ((Below.refl B0 w).alloc hB2 (.cells #[iV 2, sV [], sV t, .slice none 0 0] 38))
  have hbl := hR.lt
  clear hh hO hT hA x1
  go_enter Tryz.func39, Tryz.ntmps39
  go_wp2_with (at_builtin; refine wpList_append_own _ rfl _ _ 24 rfl B0 38 i0 _ 4 64 Tryz.underlying24 hi hz0 hz1 hz2 rfl (by decide) _ _ _ rfl hTx.out ⟨w.heap.size, 0, none⟩ 1 1 [iV 2, sV [], sV t, .slice none 0 0] rfl rfl ?n1 ?n2 ?n3 ?n4 ?n5 ?_)
  case n1 =>
    intro j u hj
    match j, hj with
    | 0, hj => simp at hj; subst hj; simp [Addr.add]
    | 1, hj => simp at hj; subst hj; simp [Addr.add]
    | 2, hj => simp at hj; subst hj; simp [Addr.add]
    | 3, hj => simp at hj; subst hj; simp [Addr.add]
  case n2 => intro u hu; simp at hu; rcases hu with rfl | rfl | rfl | rfl <;> rfl
  case n3 => unfold maxLen; omega
  case n4 => omega
  case n5 => simp; omega
  intro v' w7 hown' hgrow _
  obtain ⟨f1, f2⟩ := push_fin (t := tX t) hB (by simp; omega) hRx.out hOx.out hvs hTx.out hAx.out (AtsO.nil B0 _) hgrow hown'
  obtain ⟨ao, cap, rfl⟩ := own_slice hown'
  have hR7 := hRx.out.grow hgrow (NoRow.own hTx.out (by decide))
  have g4 := hR7.fz 4
  obtain ⟨d0, d1, d2, d3, d4, d5⟩ := hR7.cs
  have Z := Lib.hid (And.intro f1 (hbx.out.trans f2))
  clear f1 f2 hRx hOx hTx hAx hbx hgrow hown' c0 c1 c2 c3 c4 c5
  go_wp2
  go_end0
  exact ⟨rfl, Z.out.1, Z.out.2⟩
end Go.Proofs.YtknggeplnffegaaGreatDoor
