/- Texts cut at a byte; the document's Split. -/
import Derived.Test.YtpkbcomdkamglaaDoorPlPure
import Derived.Test.YtpkbcomdkamglaaDoorPlB
set_option linter.unusedSimpArgs false
set_option linter.unusedVariables false
namespace Go.Proofs.YtpkbcomdkamglaaDoor.Pl
open Go.ChangeShapes Go.WideShapes Go.ChangeAt Go.RowKit
open En
/-- what stands between bytes of a kind -/
def splt (c : UInt8) : List UInt8 → List (List UInt8)
  | [] => [[]]
  | b :: r => if b = c then [] :: splt c r else match splt c r with | [] => [[b]] | p :: q => (b :: p) :: q
theorem splt_ne (c : UInt8) (l : List UInt8) : splt c l ≠ [] := by
  cases l with
  | nil => simp [splt]
  | cons b r => unfold splt; split
                · simp
                · split <;> simp
theorem splt_hit (c : UInt8) (r : List UInt8) : splt c (c :: r) = [] :: splt c r := by rw [splt, if_pos rfl]
theorem splt_miss {b c : UInt8} (h : b ≠ c) (r : List UInt8) : ∃ p q, splt c r = p :: q ∧ splt c (b :: r) = (b :: p) :: q := by
  cases hs : splt c r with
  | nil => exact absurd hs (splt_ne c r)
  | cons p q => exact ⟨p, q, rfl, by rw [splt, if_neg h, hs]⟩
theorem splt_app {c : UInt8} (p r : List UInt8) (h : c ∉ p) : splt c (p ++ c :: r) = p :: splt c r := by
  induction p with
  | nil => exact splt_hit c r
  | cons b p ih =>
    have hb : b ≠ c := fun e => h (by simp [e])
    have hp : c ∉ p := fun e => h (by simp [e])
    rw [List.cons_append, splt, if_neg hb, ih hp]
theorem splt_none {c : UInt8} (p : List UInt8) (h : c ∉ p) : splt c p = [p] := by
  induction p with
  | nil => rfl
  | cons b p ih =>
    have hb : b ≠ c := fun e => h (by simp [e])
    have hp : c ∉ p := fun e => h (by simp [e])
    rw [splt, if_neg hb, ih hp]
theorem cut_cases (c : UInt8) (l : List UInt8) : c ∉ l ∨ ∃ p r, l = p ++ c :: r ∧ c ∉ p := by
  induction l with
  | nil => simp
  | cons b l ih =>
    by_cases hb : b = c
    · exact Or.inr ⟨[], l, by simp [hb], by simp⟩
    · rcases ih with h | ⟨p, r, rfl, hp⟩
      · exact Or.inl (by simp; exact ⟨fun e => hb e.symm, h⟩)
      · exact Or.inr ⟨b :: p, r, by simp, by simp; exact ⟨fun e => hb e.symm, hp⟩⟩
theorem splt_mem {c : UInt8} : ∀ (l : List UInt8), ∀ t ∈ splt c l, c ∉ t ∧ t.length ≤ l.length
  | [], t, h => by simp [splt] at h; subst h; simp
  | b :: r, t, h => by
    by_cases hb : b = c
    · subst hb
      rw [splt_hit] at h
      rcases List.mem_cons.1 h with rfl | h
      · simp
      · have := splt_mem r t h; exact ⟨this.1, by simp; omega⟩
    · obtain ⟨p, q, h1, h2⟩ := splt_miss hb r
      rw [h2] at h
      rcases List.mem_cons.1 h with rfl | h
      · have := splt_mem r p (by rw [h1]; simp)
        exact ⟨by simp; exact ⟨fun e => hb e.symm, this.1⟩, by simp; omega⟩
      · have := splt_mem r t (by rw [h1]; simp [h])
        exact ⟨this.1, by simp; omega⟩
theorem splt_len (c : UInt8) : ∀ l : List UInt8, (splt c l).length ≤ l.length + 1
  | [] => by simp [splt]
  | b :: r => by
    have ih := splt_len c r
    by_cases hb : b = c
    · subst hb; rw [splt_hit]; simp; omega
    · obtain ⟨p, q, h1, h2⟩ := splt_miss hb r
      rw [h2]; rw [h1] at ih; simp at ih ⊢; omega
theorem extract_mk (l : List UInt8) (a b : Nat) : (ByteArray.mk l.toArray).extract a b = ⟨((l.drop a).take (b - a)).toArray⟩ := by
  apply ByteArray.ext
  simp [ByteArray.data_extract]
/-- texts, in a slice that has grown since a world -/
def OutS (B : Nat) (v : Value) (l : List (List UInt8)) (x : World) : Prop := x.ownsRow B 9 1 v l.length (l.map fun p => Value.string ⟨p.toArray⟩)
theorem OutS.kept' {B : Nat} {v : Value} {l : List (List UInt8)} {x x' : World} (h : OutS B v l x) (k : Kept x x') : OutS B v l x' :=
  World.ownsRow.kept h (k.grownBy none) (by cases hv : v.ownBlock <;> simp)
theorem OutS.at {B : Nat} {v : Value} {l : List (List UInt8)} {x : World} (h : OutS B v l x) {k : Nat} (hk : k < l.length) : ∃ g cap, v = .slice (some ⟨g, 0, none⟩) l.length cap ∧ ∀ (j : Nat) p, l[j]? = some p → x.cell? ⟨g, j, none⟩ = some (.string ⟨p.toArray⟩) := by
  rcases h.2 with ⟨_, h2⟩ | ⟨g, cap, cur, h1, h2⟩
  · omega
  · refine ⟨g, cap, h1, fun j p hj => ?_⟩
    have hc := World.ownsRow.cells h (g := g) (by rw [h1]; rfl) j (.string ⟨p.toArray⟩) (by simp [hj])
    have ha : ((⟨g, 0, none⟩ : Addr).add j) = ⟨g, j, none⟩ := by simp [Addr.add]; omega
    rw [ha] at hc
    exact hc
theorem OutS.slice {B : Nat} {v : Value} {l : List (List UInt8)} {x : World} (h : OutS B v l x) : ∃ ao cap, v = .slice ao l.length cap := by
  rcases h.2 with ⟨h1, h2⟩ | ⟨g, cap, _, h1, _⟩
  · exact ⟨none, 0, by rw [h1, h2]⟩
  · exact ⟨_, _, h1⟩
def OutSIn (B : Nat) (X : World) (l : List (List UInt8)) (v : Value) (x : World) : Prop := ∃ ao cap, v = .slice ao l.length cap ∧ OutS B v l x ∧ Kept X x
theorem outSIn_app {B : Nat} {X y w7 : World} {l : List (List UInt8)} {u : List UInt8} {v v' : Value} (hB : X.heap.size ≤ B) (hl : OutS B v l y) (hk : Kept X y) {o : Obj} (hg : (y.alloc o).grownBy w7 v.ownBlock)
    (hown' : w7.ownsRow B 9 1 v' (l.length + 1) ((l.map fun p => Value.string ⟨p.toArray⟩) ++ [.string ⟨u.toArray⟩])) : OutSIn B X (l ++ [u]) v' w7 := by
  obtain ⟨g3, cap3, hv3⟩ : ∃ g3 cap3, v' = .slice (some ⟨g3, 0, none⟩) (l.length + 1) cap3 := by
    rcases hown'.2 with ⟨_, hx⟩ | ⟨g3, cap3, _, hx, _⟩
    · omega
    · exact ⟨g3, cap3, hx⟩
  have kk : Kept X w7 := ⟨hg.os.trans hk.os, hg.output.trans hk.output, by have := hk.size; have := hg.size; simp at this; omega, fun j hj => by
    have q1 := hk.size
    have q3 := hl.lt
    rw [hg.block j (by simp; omega) (fun e => by have := q3 j (e.symm); omega), Below.heap_alloc _ _ _ (by omega), hk.block j hj], hg.tape.trans hk.tape⟩
  exact ⟨some ⟨g3, 0, none⟩, cap3, by rw [hv3]; simp, by unfold OutS; rw [List.map_append, List.length_append]; exact hown', kk⟩
/-- what is left to cut, a piece begun -/
def cutF (c : UInt8) (cur : List UInt8) : List UInt8 → List (List UInt8)
  | [] => [cur]
  | b :: r => if b = c then cur :: cutF c [] r else cutF c (cur ++ [b]) r
theorem cutF_eq (c : UInt8) : ∀ (l cur : List UInt8), c ∉ cur → cutF c cur l = splt c (cur ++ l)
  | [], cur, h => by rw [cutF, List.append_nil, splt_none cur h]
  | b :: r, cur, h => by
    rw [cutF]
    by_cases hb : b = c
    · subst hb
      rw [if_pos rfl, splt_app cur r h, cutF_eq b r [] (by simp)]; rfl
    · rw [if_neg hb, cutF_eq c r (cur ++ [b]) (by simp; exact ⟨h, fun e => hb e.symm⟩)]
      simp
theorem cutF_splt (c : UInt8) (l : List UInt8) : cutF c [] l = splt c l := cutF_eq c l [] (by simp)
theorem cutF_step {c : UInt8} {cur l : List UInt8} {k : Nat} {b : UInt8} (h : l[k]? = some b) : cutF c cur (l.drop k) = if b = c then cur :: cutF c [] (l.drop (k + 1)) else cutF c (cur ++ [b]) (l.drop (k + 1)) := by
  have : l.drop k = b :: l.drop (k + 1) := by
    obtain ⟨hk, rfl⟩ := List.getElem?_eq_some_iff.1 h
    exact List.drop_eq_getElem_cons hk
  rw [this, cutF]
theorem stretch_snoc {l : List UInt8} {i k : Nat} {b : UInt8} (hi : i ≤ k) (h : l[k]? = some b) : (l.drop i).take (k + 1 - i) = (l.drop i).take (k - i) ++ [b] := by
  rw [show k + 1 - i = (k - i) + 1 by omega, List.take_add_one, List.getElem?_drop, show i + (k - i) = k by omega, h]; rfl
theorem stretch_end {c : UInt8} {l : List UInt8} {i k : Nat} (hk : k = l.length) : cutF c ((l.drop i).take (k - i)) (l.drop k) = [(l.drop i).take (k - i)] := by
  rw [show l.drop k = [] from List.drop_eq_nil_of_le (by omega), cutF]
end Go.Proofs.YtpkbcomdkamglaaDoor.Pl
