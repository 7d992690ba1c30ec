/- Slices of integers and of texts, as package cron makes and reads them. -/
import Derived.Test.YtilgamjahediiaaGreatDoorCrN
import Derived.Great.BuildSlice
import Derived.Maps.AppendAt
import Derived.BigCall
import Derived.Sort.OwnSortedInts
set_option linter.unusedVariables false
namespace Go.Proofs.YtilgamjahediiaaGreatDoor
open Go.ChangeShapes Go.WideShapes Go.ChangeAt Go.RowKit
open Crn
theorem Kept.only {W x x' : World} {bk : Nat} (h : Kept W x) (o : Only bk x x') (hb : W.heap.size ≤ bk) : Kept W x' :=
  ⟨o.os.trans h.os, o.output.trans h.output, Nat.le_trans h.size o.size, fun k hk => (o.block k (Nat.lt_of_lt_of_le hk h.size) (by omega)).trans (h.block k hk), o.tape.trans h.tape⟩
/-- integers, in a slice that has grown since a world -/
def KOut (B : Nat) (v : Value) (l : List Int) (x : World) : Prop := x.ownsRow B 3 1 v l.length (l.map fun n => Value.int .i64 n)
theorem KOut.nil (B : Nat) (x : World) : KOut B (.slice none 0 0) [] x := World.ownsRow_nil _ _ _ _
theorem KOut.kept' {B : Nat} {v : Value} {l : List Int} {x x' : World} (h : KOut B v l x) (k : Kept x x') : KOut B v l x' :=
  World.ownsRow.kept h (k.grownBy none) (by cases hv : v.ownBlock <;> simp)
theorem KOut.mono {B C : Nat} {v : Value} {l : List Int} {x : World} (h : KOut C v l x) (hb : B ≤ C) : KOut B v l x :=
  ⟨h.1, h.2.imp id fun ⟨g1, c1, c2, h1, h2, h3⟩ => ⟨g1, c1, c2, h1, Nat.le_trans hb h2, h3⟩⟩
theorem KOut.slice {B : Nat} {v : Value} {l : List Int} {x : World} (h : KOut B v l x) : ∃ ao cap, v = .slice ao l.length cap := by
  rcases h.2 with ⟨h1, h2⟩ | ⟨g, cap, _, h1, _⟩
  · exact ⟨none, 0, by rw [h1, h2]⟩
  · exact ⟨_, _, h1⟩
theorem KOut.len {B : Nat} {v : Value} {l : List Int} {x : World} (h : KOut B v l x) : l.length ≤ maxLen := by
  rcases h.2 with ⟨q1, q2⟩ | ⟨g, cap, _, q1, _, _, q2, q3, _⟩
  · unfold maxLen; omega
  · omega
def KOutIn (B : Nat) (X : World) (l : List Int) (v : Value) (x : World) : Prop := ∃ ao cap, v = .slice ao l.length cap ∧ KOut B v l x ∧ Kept X x
theorem koutIn_app {B : Nat} {X y w7 : World} {l : List Int} {u : Int} {v v' : Value} (hB : X.heap.size ≤ B) (hl : KOut B v l y) (hk : Kept X y) {o : Obj} (hg : (y.alloc o).grownBy w7 v.ownBlock)
    (hown' : w7.ownsRow B 3 1 v' (l.length + 1) ((l.map fun n => Value.int .i64 n) ++ [.int .i64 u])) : KOutIn B X (l ++ [u]) v' w7 := by
  obtain ⟨g3, cap3, hv3⟩ : ∃ g3 cap3, v' = .slice (some ⟨g3, 0, none⟩) (l.length + 1) cap3 := by
    rcases hown'.2 with ⟨_, hx⟩ | ⟨g3, cap3, _, hx, _⟩
    · omega
    · exact ⟨g3, cap3, hx⟩
  have kk : Kept X w7 := ⟨hg.os.trans hk.os, hg.output.trans hk.output, by have := hk.size; have := hg.size; simp at this; omega, fun j hj => by
    have q1 := hk.size
    have q3 := hl.lt
    rw [hg.block j (by simp; omega) (fun e => by have := q3 j (e.symm); omega), Below.heap_alloc _ _ _ (by omega), hk.block j hj], hg.tape.trans hk.tape⟩
  exact ⟨some ⟨g3, 0, none⟩, cap3, by rw [hv3]; simp, by unfold KOut; rw [List.map_append, List.length_append]; exact hown', kk⟩
/-- integers that a slice reads as -/
def Rs (x : World) (v : Value) (l : List Int) : Prop :=
  (l = [] ∧ ∃ ad c, v = .slice ad 0 c) ∨ (l ≠ [] ∧ ∃ b o c, v = .slice (some ⟨b, o, none⟩) l.length c ∧ b < x.heap.size ∧ l.length ≤ maxLen ∧ ∀ (j : Nat) n, l[j]? = some n → x.cell? ⟨b, o + j, none⟩ = some (.int .i64 n))
theorem Rs.kept {x x' : World} {v : Value} {l : List Int} (h : Rs x v l) (k : Kept x x') : Rs x' v l := by
  rcases h with h | ⟨h0, b, o, c, h1, h2, h3, h4⟩
  · exact Or.inl h
  · exact Or.inr ⟨h0, b, o, c, h1, Nat.lt_of_lt_of_le h2 k.size, h3, fun j n hj => (k.cell (a := ⟨b, o + j, none⟩) h2).trans (h4 j n hj)⟩
theorem Rs.len {x : World} {v : Value} {l : List Int} (h : Rs x v l) : l.length ≤ maxLen := by
  rcases h with ⟨rfl, _⟩ | ⟨_, _, _, _, _, _, h, _⟩
  · simp
  · exact h
theorem Rs.slice {x : World} {v : Value} {l : List Int} (h : Rs x v l) : ∃ ad c, v = .slice ad l.length c := by
  rcases h with ⟨rfl, ad, c, h⟩ | ⟨_, b, o, c, h, _⟩
  · exact ⟨ad, c, h⟩
  · exact ⟨_, c, h⟩
theorem Rs.at {x : World} {v : Value} {l : List Int} (h : Rs x v l) {k : Nat} (hk : k < l.length) : ∃ b o c, v = .slice (some ⟨b, o, none⟩) l.length c ∧ b < x.heap.size ∧ ∀ (j : Nat) n, l[j]? = some n → x.cell? ⟨b, o + j, none⟩ = some (.int .i64 n) := by
  rcases h with ⟨rfl, _⟩ | ⟨_, b, o, c, h1, h2, _, h4⟩
  · simp at hk
  · exact ⟨b, o, c, h1, h2, h4⟩
theorem KOut.rs {B : Nat} {v : Value} {l : List Int} {x : World} (h : KOut B v l x) : Rs x v l := by
  have hl := h.len
  rcases h.2 with ⟨h1, h2⟩ | ⟨g, cap, cur, h1, h2, h3, h4, h5, h6, h7⟩
  · exact Or.inl ⟨by simpa using h2, none, 0, h1⟩
  · by_cases hn : l = []
    · subst hn; exact Or.inl ⟨rfl, _, _, h1⟩
    · refine Or.inr ⟨hn, g, 0, cap, h1, (Array.getElem?_eq_some_iff.1 h3).1, hl, fun j n hj => ?_⟩
      have hc := World.ownsRow.cells h (g := g) (by rw [h1]; rfl) j (.int .i64 n) (by simp [hj])
      have ha : ((⟨g, 0, none⟩ : Addr).add j) = ⟨g, 0 + j, none⟩ := by simp [Addr.add]; omega
      rw [ha] at hc
      exact hc
/-- texts, in a block of their own -/
def Ss (g : Nat) (ps : List (List UInt8)) (x : World) : Prop := x.heap[g]? = some (.cells (ps.map fun p => Value.string ⟨p.toArray⟩).toArray 9)
theorem Ss.lt {g : Nat} {ps : List (List UInt8)} {x : World} (h : Ss g ps x) : g < x.heap.size := (Array.getElem?_eq_some_iff.1 h).1
theorem Ss.kept {g : Nat} {ps : List (List UInt8)} {x x' : World} (h : Ss g ps x) (k : Kept x x') : Ss g ps x' := (k.block g h.lt).trans h
theorem Ss.at {g : Nat} {ps : List (List UInt8)} {x : World} (h : Ss g ps x) {k : Nat} {p : List UInt8} (hk : ps[k]? = some p) : x.cell? ⟨g, k, none⟩ = some (.string ⟨p.toArray⟩) := by
  unfold Ss at h
  simp [World.cell?, h, hk]
theorem splitB_eq (c : UInt8) (l : List UInt8) : (Lib.splitB ⟨[c].toArray⟩ 0 (Lib.countB ⟨l.toArray⟩ ⟨[c].toArray⟩) ⟨l.toArray⟩) = (splt c l).map fun p => (⟨p.toArray⟩ : ByteArray) := by
  have h := Lib.splitB_data ⟨[c].toArray⟩ 0 (Lib.countB ⟨l.toArray⟩ ⟨[c].toArray⟩) ⟨l.toArray⟩
  have h2 := (split_eq c l.length l (Nat.le_refl _)).1
  have h3 : (Lib.splitB ⟨[c].toArray⟩ 0 (Lib.countB ⟨l.toArray⟩ ⟨[c].toArray⟩) ⟨l.toArray⟩).map (·.data.toList) = splt c l := h.trans h2
  rw [← h3, List.map_map]
  symm
  conv => rhs; rw [← List.map_id (Lib.splitB _ _ _ _)]
  apply List.map_congr_left
  intro b _
  rfl
theorem ksplit_any (c : UInt8) (l : List UInt8) (n : Nat) (w : World) (ht : Tb n w) (hl : l.length ≤ 1000) :
    Calls Tryz.prog 110 #[.string ⟨l.toArray⟩, .string ⟨[c].toArray⟩] w fun e w' => e = .returned (.slice (some ⟨w.heap.size, 0, none⟩) (splt c l).length (splt c l).length) ∧ Ss w.heap.size (splt c l) w' ∧ Kept w w' := by
  obtain ⟨m, hm⟩ := ht.tab.ml
  refine (Tryz.strings_Split ⟨l.toArray⟩ ⟨[c].toArray⟩ m w (by show l.length < _; omega) hm (by show 1 ≤ 1; omega)).mono ?_
  rintro e w1 ⟨rfl, rfl⟩
  have hc : Lib.countB ⟨l.toArray⟩ ⟨[c].toArray⟩ + 1 = (splt c l).length := (split_eq c l.length l (Nat.le_refl _)).2
  refine ⟨by rw [hc], ?_, (Kept.refl w).alloc _⟩
  unfold Ss
  rw [show ∀ o, (w.alloc o).heap = w.heap.push o from fun _ => rfl, Array.getElem?_push, if_pos rfl, splitB_eq, List.map_map]
  rfl
end Go.Proofs.YtilgamjahediiaaGreatDoor
