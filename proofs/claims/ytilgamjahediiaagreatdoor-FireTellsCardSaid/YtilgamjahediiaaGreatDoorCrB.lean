/- Several texts of this seat, one behind the other. -/
import Derived.Test.YtilgamjahediiaaGreatDoorCrParse
import Derived.Test.YtilgamjahediiaaGreatDoorCrSame
import Derived.Test.YtilgamjahediiaaGreatDoorCrD
/- Contracts of the document's answer for package cron: bounds, lists, digits. -/
set_option linter.unusedVariables false
namespace Go.Proofs.YtilgamjahediiaaGreatDoor
open Go.ChangeShapes Go.WideShapes Go.ChangeAt Go.RowKit
open Crn
theorem low_any (f : Nat) (hf : f < 5) (w : World) : Calls Tryz.prog 64 #[.int .i64 f] w fun e w' => e = .returned (.int .i64 (lo f)) ∧ w = w' := by
  rcases (show f = 0 ∨ f = 1 ∨ f = 2 ∨ f = 3 ∨ f = 4 by omega) with rfl | rfl | rfl | rfl | rfl
  all_goals
    go_enter Tryz.func64, Tryz.ntmps64
    go_wp2
    go_ret
    exact ⟨rfl, rfl⟩
theorem high_any (f : Nat) (hf : f < 5) (w : World) : Calls Tryz.prog 65 #[.int .i64 f] w fun e w' => e = .returned (.int .i64 (hi f)) ∧ w = w' := by
  rcases (show f = 0 ∨ f = 1 ∨ f = 2 ∨ f = 3 ∨ f = 4 by omega) with rfl | rfl | rfl | rfl | rfl
  all_goals
    go_enter Tryz.func65, Tryz.ntmps65
    go_wp2
    go_ret
    exact ⟨rfl, rfl⟩
theorem has_step (l : List Int) (k : Nat) (m n : Int) (h : l[k]? = some m) : (l.drop k).contains n = (decide (m = n) || (l.drop (k + 1)).contains n) := by
  have : l.drop k = m :: l.drop (k + 1) := by
    obtain ⟨hk, rfl⟩ := List.getElem?_eq_some_iff.1 h
    exact List.drop_eq_getElem_cons hk
  rw [this, List.contains_cons]
  congr 1
  by_cases e : m = n
  · subst e; simp
  · rw [decide_eq_false e]; exact beq_eq_false_iff_ne.2 (fun h => e h.symm)
theorem rhas_any (v : Value) (l : List Int) (n : Int) (w : World) (hv : Rs w v l) : Calls Tryz.prog 67 #[v, .int .i64 n] w fun e w' => e = .returned (.bool (l.contains n)) ∧ w = w' := by
  have hl := hv.len
  unfold maxLen at hl
  obtain ⟨ad, c, rfl⟩ := hv.slice
  have HV := Lib.hid hv; clear hv
  go_enter Tryz.func67, Tryz.ntmps67
  go_wp2_with fail
  go_loopw [5] (fun i y => y = w ∧ ∃ k : Nat, k ≤ l.length ∧ i = .int .i64 k ∧ l.contains n = (l.drop k).contains n) (fun i _ => l.length - (intOf i).toNat)
  case atStart => exact ⟨rfl, 0, Nat.zero_le _, rfl, by simp⟩
  case round =>
    obtain ⟨rfl, k, hk, rfl, hc⟩ := hrel
    by_cases hlt : k < l.length
    · obtain ⟨b, o, c2, hs, hb, hcell⟩ := HV.out.at hlt
      simp only [Value.slice.injEq] at hs
      obtain ⟨rfl, _, rfl⟩ := hs
      obtain ⟨m, hm⟩ : ∃ m, l[k]? = some m := ⟨_, List.getElem?_eq_getElem hlt⟩
      have ck := hcell k m hm
      have HS := Lib.hid (hc.trans (has_step l k m n hm))
      clear hcell hm hc
      by_cases he : m = n
      · go_wp2
        go_ret
        exact ⟨ret_bool (by rw [HS.out, decide_eq_true he]; rfl), rfl⟩
      · go_wp2
        go_roundw
        case rel => exact ⟨trivial, k + 1, hlt, by go_num, by rw [HS.out, decide_eq_false he]; rfl⟩
        case measure => simp [intOf]; omega
    · have HE := Lib.hid (show l.contains n = false by rw [hc, List.drop_eq_nil_of_le (by omega)]; rfl)
      go_wp2
      go_ret
      exact ⟨ret_bool HE.out.symm, rfl⟩
def dgV (l : List UInt8) : Int := match digs l with | some n => n | none => -1
def dgF : List UInt8 → Int → Int
  | [], n => n
  | a :: r, n => if isD a = true then dgF r (10 * n + dv a) else -1
theorem dgV_eq (l : List UInt8) (h1 : 1 ≤ l.length) (h2 : l.length ≤ 2) : dgV l = dgF l 0 := by
  rcases l with _ | ⟨a, _ | ⟨b, _ | ⟨c, r⟩⟩⟩
  · simp at h1
  · by_cases ha : isD a = true
    · simp [dgV, digs, dgF, ha]
    · simp [dgV, digs, dgF, ha]
  · by_cases ha : isD a = true
    · by_cases hb : isD b = true
      · simp [dgV, digs, dgF, ha, hb]
      · simp [dgV, digs, dgF, ha, hb]
    · simp [dgV, digs, dgF, ha]
  · simp at h2
theorem dgV_out (l : List UInt8) (h : l.length < 1 ∨ 2 < l.length) : dgV l = -1 := by
  rcases l with _ | ⟨a, _ | ⟨b, _ | ⟨c, r⟩⟩⟩
  · rfl
  · simp at h
  · simp at h
  · rfl
theorem dgF_step (l : List UInt8) (k : Nat) (n : Int) (a : UInt8) (h : l[k]? = some a) : dgF (l.drop k) n = if isD a = true then dgF (l.drop (k + 1)) (10 * n + dv a) else -1 := by
  have : l.drop k = a :: l.drop (k + 1) := by
    obtain ⟨hk, rfl⟩ := List.getElem?_eq_some_iff.1 h
    exact List.drop_eq_getElem_cons hk
  rw [this, dgF]
theorem byte_at (l : List UInt8) (k : Nat) (a : UInt8) (h : l[k]? = some a) (hk : k < (ByteArray.mk l.toArray).size) : (ByteArray.mk l.toArray)[k]'hk = a := by
  obtain ⟨h1, h2⟩ := List.getElem?_eq_some_iff.1 h
  rw [← h2]; rfl
theorem small_step (l : List UInt8) (k : Nat) (a : UInt8) (h : l[k]? = some a) : (l.take (k + 1)).map Lib.lowerB = (l.take k).map Lib.lowerB ++ [Lib.lowerB a] := by
  rw [List.take_add_one, h]; simp
theorem app_mk (a b : List UInt8) : (⟨a.toArray⟩ ++ ⟨b.toArray⟩ : ByteArray) = ⟨(a ++ b).toArray⟩ := by
  apply ByteArray.ext; simp [ByteArray.data_append]
end Go.Proofs.YtilgamjahediiaaGreatDoor
/- Contracts of the document's answer for package cron: parts of a text. -/
set_option linter.unusedVariables false
namespace Go.Proofs.YtilgamjahediiaaGreatDoor
open Go.ChangeShapes Go.WideShapes Go.ChangeAt Go.RowKit
open Crn
def nmV (f : Nat) (l : List UInt8) : Int := if l.length = 3 then (nm f l).getD (-1) else -1
def numV (f : Nat) (l : List UInt8) : Int := (Crn.tok f l).getD (-1)
theorem dgV_ge (l : List UInt8) : -1 ≤ dgV l ∧ dgV l ≤ 99 := by
  unfold dgV
  cases hd : digs l with
  | none => simp
  | some n => rcases digs_some hd with ⟨a, _, ha, rfl⟩ | ⟨a, b, _, ha, hb, rfl⟩
              · have := dv_bd ha; simp; omega
              · have := dv_bd ha; have := dv_bd hb; simp; omega
theorem numV_dig {f : Nat} {l : List UInt8} (h : 0 ≤ dgV l) : numV f l = if lo f ≤ dgV l ∧ dgV l ≤ wr f then dgV l else -1 := by
  unfold numV Crn.tok
  unfold dgV at h ⊢
  cases hd : digs l with
  | none => rw [hd] at h; simp at h
  | some n => simp only; split <;> rfl
theorem numV_nm {f : Nat} {l : List UInt8} (h : ¬ 0 ≤ dgV l) : numV f l = nmV f l := by
  unfold numV Crn.tok nmV
  unfold dgV at h
  cases hd : digs l with
  | some n =>
    rw [hd] at h
    rcases digs_some hd with ⟨a, _, ha, rfl⟩ | ⟨a, b, _, ha, hb, rfl⟩
    · have := dv_bd ha; simp at h; omega
    · have := dv_bd ha; have := dv_bd hb; simp at h; omega
  | none => simp only; split <;> rfl
theorem nmV_bd (f : Nat) (l : List UInt8) : nmV f l = -1 ∨ (lo f ≤ nmV f l ∧ nmV f l ≤ hi f) := by
  unfold nmV
  split
  · cases h : nm f l with
    | none => exact Or.inl rfl
    | some n => exact Or.inr (nm_bd h)
  · exact Or.inl rfl
theorem nmV_none (f : Nat) (h3 : f ≠ 3) (h4 : f ≠ 4) (l : List UInt8) : nmV f l = -1 := by
  have e : nms f = [] := by unfold nms; split <;> first | rfl | omega
  unfold nmV nm
  rw [e]; split <;> rfl
end Go.Proofs.YtilgamjahediiaaGreatDoor
/- Contracts of the document's answer for package cron: what stands between bytes; pieces. -/
set_option linter.unusedVariables false
namespace Go.Proofs.YtilgamjahediiaaGreatDoor
open Go.ChangeShapes Go.WideShapes Go.ChangeAt Go.RowKit
open Crn
/-- texts, in a slice that has grown since a world -/
def OutS (B : Nat) (v : Value) (l : List (List UInt8)) (x : World) : Prop := x.ownsRow B 9 1 v l.length (l.map fun p => Value.string ⟨p.toArray⟩)
theorem OutS.kept' {B : Nat} {v : Value} {l : List (List UInt8)} {x x' : World} (h : OutS B v l x) (k : Kept x x') : OutS B v l x' :=
  World.ownsRow.kept h (k.grownBy none) (by cases hv : v.ownBlock <;> simp)
theorem OutS.at {B : Nat} {v : Value} {l : List (List UInt8)} {x : World} (h : OutS B v l x) {k : Nat} (hk : k < l.length) : ∃ g cap, v = .slice (some ⟨g, 0, none⟩) l.length cap ∧ ∀ (j : Nat) p, l[j]? = some p → x.cell? ⟨g, j, none⟩ = some (.string ⟨p.toArray⟩) := by
  rcases h.2 with ⟨_, h2⟩ | ⟨g, cap, cur, h1, h2⟩
  · omega
  · refine ⟨g, cap, h1, fun j p hj => ?_⟩
    have hc := World.ownsRow.cells h (g := g) (by rw [h1]; rfl) j (.string ⟨p.toArray⟩) (by simp [hj])
    have ha : ((⟨g, 0, none⟩ : Addr).add j) = ⟨g, j, none⟩ := by simp [Addr.add]; omega
    rw [ha] at hc
    exact hc
theorem OutS.slice {B : Nat} {v : Value} {l : List (List UInt8)} {x : World} (h : OutS B v l x) : ∃ ao cap, v = .slice ao l.length cap := by
  rcases h.2 with ⟨h1, h2⟩ | ⟨g, cap, _, h1, _⟩
  · exact ⟨none, 0, by rw [h1, h2]⟩
  · exact ⟨_, _, h1⟩
def OutSIn (B : Nat) (X : World) (l : List (List UInt8)) (v : Value) (x : World) : Prop := ∃ ao cap, v = .slice ao l.length cap ∧ OutS B v l x ∧ Kept X x
theorem outSIn_app {B : Nat} {X y w7 : World} {l : List (List UInt8)} {u : List UInt8} {v v' : Value} (hB : X.heap.size ≤ B) (hl : OutS B v l y) (hk : Kept X y) {o : Obj} (hg : (y.alloc o).grownBy w7 v.ownBlock)
    (hown' : w7.ownsRow B 9 1 v' (l.length + 1) ((l.map fun p => Value.string ⟨p.toArray⟩) ++ [.string ⟨u.toArray⟩])) : OutSIn B X (l ++ [u]) v' w7 := by
  obtain ⟨g3, cap3, hv3⟩ : ∃ g3 cap3, v' = .slice (some ⟨g3, 0, none⟩) (l.length + 1) cap3 := by
    rcases hown'.2 with ⟨_, hx⟩ | ⟨g3, cap3, _, hx, _⟩
    · omega
    · exact ⟨g3, cap3, hx⟩
  have kk : Kept X w7 := ⟨hg.os.trans hk.os, hg.output.trans hk.output, by have := hk.size; have := hg.size; simp at this; omega, fun j hj => by
    have q1 := hk.size
    have q3 := hl.lt
    rw [hg.block j (by simp; omega) (fun e => by have := q3 j (e.symm); omega), Below.heap_alloc _ _ _ (by omega), hk.block j hj], hg.tape.trans hk.tape⟩
  exact ⟨some ⟨g3, 0, none⟩, cap3, by rw [hv3]; simp, by unfold OutS; rw [List.map_append, List.length_append]; exact hown', kk⟩
/-- what is left to cut, a piece begun -/
def cutF (c : UInt8) (cur : List UInt8) : List UInt8 → List (List UInt8)
  | [] => [cur]
  | b :: r => if b = c then cur :: cutF c [] r else cutF c (cur ++ [b]) r
theorem cutF_eq (c : UInt8) : ∀ (l cur : List UInt8), c ∉ cur → cutF c cur l = splt c (cur ++ l)
  | [], cur, h => by rw [cutF, List.append_nil, splt_none cur h]
  | b :: r, cur, h => by
    rw [cutF]
    by_cases hb : b = c
    · subst hb
      rw [if_pos rfl, splt_app cur r h, cutF_eq b r [] (by simp)]; rfl
    · rw [if_neg hb, cutF_eq c r (cur ++ [b]) (by simp; exact ⟨h, fun e => hb e.symm⟩)]
      simp
theorem cutF_splt (c : UInt8) (l : List UInt8) : cutF c [] l = splt c l := cutF_eq c l [] (by simp)
theorem cutF_step {c : UInt8} {cur l : List UInt8} {k : Nat} {b : UInt8} (h : l[k]? = some b) : cutF c cur (l.drop k) = if b = c then cur :: cutF c [] (l.drop (k + 1)) else cutF c (cur ++ [b]) (l.drop (k + 1)) := by
  have : l.drop k = b :: l.drop (k + 1) := by
    obtain ⟨hk, rfl⟩ := List.getElem?_eq_some_iff.1 h
    exact List.drop_eq_getElem_cons hk
  rw [this, cutF]
theorem stretch_snoc {l : List UInt8} {i k : Nat} {b : UInt8} (hi : i ≤ k) (h : l[k]? = some b) : (l.drop i).take (k + 1 - i) = (l.drop i).take (k - i) ++ [b] := by
  rw [show k + 1 - i = (k - i) + 1 by omega, List.take_add_one, List.getElem?_drop, show i + (k - i) = k by omega, h]; rfl
theorem stretch_end {c : UInt8} {l : List UInt8} {i k : Nat} (hk : k = l.length) : cutF c ((l.drop i).take (k - i)) (l.drop k) = [(l.drop i).take (k - i)] := by
  rw [show l.drop k = [] from List.drop_eq_nil_of_le (by omega), cutF]
end Go.Proofs.YtilgamjahediiaaGreatDoor
/- Contracts of package cron: a schedule's text. -/
set_option linter.unusedVariables false
namespace Go.Proofs.YtilgamjahediiaaGreatDoor
open Go.ChangeShapes Go.WideShapes Go.ChangeAt Go.RowKit
open Crn
theorem dec_le (n : Nat) (h : n < 100) : (Lib.decDigits n).length ≤ 2 := by
  by_cases h10 : n < 10
  · rw [Lib.decDigits_one h10]; simp
  · rw [Lib.decDigits, dif_neg h10, List.length_append, Lib.decDigits_one (by omega)]; simp
theorem itoa_len (n : Int) (h0 : 0 ≤ n) (h1 : n < 100) : (Lib.itoa n).length ≤ 2 := by
  unfold Lib.itoa
  rw [if_neg (by omega)]
  exact dec_le _ (by omega)
theorem join_len (k : Nat) (c : UInt8) : ∀ (xs : List (List UInt8)), (∀ x ∈ xs, x.length ≤ k) → (Lib.join xs [c]).length ≤ (k + 1) * xs.length
  | [], _ => by simp [Lib.join]
  | [x], h => by have := h x (by simp); simp [Lib.join]; omega
  | x :: y :: r, h => by
    have h1 := h x (by simp)
    have h2 := join_len k c (y :: r) (fun z hz => h z (by simp [hz]))
    have e : Lib.join (x :: y :: r) [c] = x ++ [c] ++ Lib.join (y :: r) [c] := by simp [Lib.join, List.intercalate]
    rw [e]
    have e2 : (k + 1) * (x :: y :: r).length = (k + 1) * (y :: r).length + (k + 1) := Nat.mul_succ _ _
    rw [e2]
    simp only [List.length_append, List.length_singleton]
    omega
theorem rises_mem : ∀ {l : List Int} {m top : Int}, rises m top l = true → ∀ x ∈ l, m ≤ x ∧ x ≤ top
  | [], _, _, _, _, h => by simp at h
  | a :: r, m, top, h, x, hx => by
    rw [rises, Bool.and_eq_true, decide_eq_true_eq] at h
    rcases List.mem_cons.1 hx with rfl | hx
    · exact h.1
    · have := rises_mem h.2 x hx; omega
theorem rises_len : ∀ {l : List Int} {m top : Int}, rises m top l = true → (l.length : Int) ≤ max 0 (top + 1 - m)
  | [], _, _, _ => by simp; omega
  | a :: r, m, top, h => by
    rw [rises, Bool.and_eq_true, decide_eq_true_eq] at h
    have := rises_len h.2
    simp only [List.length_cons]; omega
theorem mayF_bd {f : Nat} {l : List Int} {s : Bool} (h : mayF f l s = true) : (∀ x ∈ l, lo f ≤ x ∧ x ≤ Crn.hi f) ∧ l.length ≤ 60 ∧ l ≠ [] := by
  unfold mayF at h
  simp only [Bool.and_eq_true] at h
  have h1 := rises_mem h.1.2
  have h2 := rises_len h.1.2
  have := lo_bd f; have := hi_bd f
  exact ⟨h1, by omega, by have := h.1.1; intro e; subst e; simp at this⟩
theorem mayC_at {c : CR} (h : mayC c = true) (k : Nat) (hk : k < 5) : mayF k (c.L k) (c.st k) = true := by
  unfold mayC at h
  simp only [Bool.and_eq_true] at h
  obtain ⟨⟨⟨⟨h0, h1⟩, h2⟩, h3⟩, h4⟩ := h
  rcases (show k = 0 ∨ k = 1 ∨ k = 2 ∨ k = 3 ∨ k = 4 by omega) with rfl | rfl | rfl | rfl | rfl <;> assumption
theorem ptxt_len {l : List Int} {s : Bool} (hr : ∀ x ∈ l, 0 ≤ x ∧ x < 100) (hl : l.length ≤ 60) : (ptxt l s).length ≤ 180 := by
  unfold ptxt
  split
  · simp
  · have := join_len 2 44 (l.map Lib.itoa) (fun x hx => by obtain ⟨m, hm, rfl⟩ := List.mem_map.1 hx; have := hr m hm; exact itoa_len m this.1 this.2)
    rw [List.length_map] at this; omega
theorem index_L (W : World) (sl : Nat → Value) (k : Nat) (hk : k < 5) : (Instr.index 27 (.agg #[sl 0, sl 1, sl 2, sl 3, sl 4]) (.int .i64 (k : Int))).run Tryz.prog W = .ok (sl k) W := by
  rcases (show k = 0 ∨ k = 1 ∨ k = 2 ∨ k = 3 ∨ k = 4 by omega) with rfl | rfl | rfl | rfl | rfl <;> kernel_rfl
def prts (c : CR) (k : Nat) : List (List UInt8) := (List.range k).map fun i => ptxt (c.L i) (c.st i)
theorem prts_len (c : CR) (k : Nat) : (prts c k).length = k := by simp [prts]
theorem prts_succ (c : CR) (k : Nat) : prts c (k + 1) = prts c k ++ [ptxt (c.L k) (c.st k)] := by simp [prts, List.range_succ]
theorem prts_5 (c : CR) : Lib.join (prts c 5) [32] = wtxt c := rfl
def WritePost (c : CR) (w : World) (e : Ending) (w' : World) : Prop :=
  (mayC c = true → e = .returned (.tuple #[.string ⟨(wtxt c).toArray⟩, .int .i64 0])) ∧ (mayC c = false → e = .returned (.tuple #[.string ⟨#[]⟩, .int .i64 1])) ∧ Kept w w'
end Go.Proofs.YtilgamjahediiaaGreatDoor
/- The chapter's examples. -/
set_option linter.unusedVariables false
namespace Go.Proofs.YtilgamjahediiaaGreatDoor
open Go.ChangeShapes Go.WideShapes Go.ChangeAt Go.RowKit
open Crn Civ
/-- all that a schedule is -/
def tup (c : CR) : (List Int × List Int × List Int × List Int × List Int) × (Bool × Bool × Bool × Bool × Bool) := ((c.L 0, c.L 1, c.L 2, c.L 3, c.L 4), (c.st 0, c.st 1, c.st 2, c.st 3, c.st 4))
abbrev sA : List UInt8 := [51, 48, 32, 54, 32, 42, 32, 42, 32, 109, 111, 110, 45, 102, 114, 105]
abbrev sB : List UInt8 := [48, 32, 48, 32, 49, 51, 32, 42, 32, 53]
theorem prs_A : (prs sA).map tup = some (([30], [6], [1, 2, 3, 4, 5, 6, 7, 8, 9, 10, 11, 12, 13, 14, 15, 16, 17, 18, 19, 20, 21, 22, 23, 24, 25, 26, 27, 28, 29, 30, 31], [1, 2, 3, 4, 5, 6, 7, 8, 9, 10, 11, 12], [1, 2, 3, 4, 5]), (false, false, true, true, false)) := by kernel_rfl
theorem prs_B : (prs sB).map tup = some (([0], [0], [13], [1, 2, 3, 4, 5, 6, 7, 8, 9, 10, 11, 12], [5]), (false, false, false, true, false)) := by kernel_rfl
def d2 (n : Int) : List UInt8 := if n < 10 then [UInt8.ofNat (48 + n.toNat)] else [UInt8.ofNat (48 + n.toNat / 10), UInt8.ofNat (48 + n.toNat % 10)]
theorem itoa_d2 (n : Int) (h0 : 0 ≤ n) (h1 : n < 100) : Lib.itoa n = d2 n := by
  unfold Lib.itoa d2
  rw [if_neg (by omega)]
  by_cases h : n < 10
  · rw [if_pos h, Lib.decDigits_one (by omega)]
  · rw [if_neg h, Lib.decDigits, dif_neg (by omega), Lib.decDigits_one (by omega)]; rfl
def ptx2 (l : List Int) (s : Bool) : List UInt8 := if s = true then [42] else Lib.join (l.map d2) [44]
theorem ptxt_2 {l : List Int} {s : Bool} (h : ∀ x ∈ l, 0 ≤ x ∧ x < 100) : ptxt l s = ptx2 l s := by
  unfold ptxt ptx2
  rw [List.map_congr_left (fun x hx => itoa_d2 x (h x hx).1 (h x hx).2)]
def wtx2 (c : CR) : List UInt8 := Lib.join [ptx2 (c.L 0) (c.st 0), ptx2 (c.L 1) (c.st 1), ptx2 (c.L 2) (c.st 2), ptx2 (c.L 3) (c.st 3), ptx2 (c.L 4) (c.st 4)] [32]
theorem wtxt_2 {c : CR} (h : mayC c = true) : wtxt c = wtx2 c := by
  have q : ∀ k, k < 5 → ptxt (c.L k) (c.st k) = ptx2 (c.L k) (c.st k) := fun k hk => ptxt_2 (fun x hx => by
    obtain ⟨b1, _, _⟩ := mayF_bd (mayC_at h k hk)
    have := b1 x hx; have := lo_bd k; have := hi_bd k; omega)
  unfold wtxt wtx2
  rw [q 0 (by omega), q 1 (by omega), q 2 (by omega), q 3 (by omega), q 4 (by omega)]
/-- what the tests ask of a schedule, of what it is -/
def mayT (t : (List Int × List Int × List Int × List Int × List Int) × (Bool × Bool × Bool × Bool × Bool)) : Bool := mayF 0 t.1.1 t.2.1 && mayF 1 t.1.2.1 t.2.2.1 && mayF 2 t.1.2.2.1 t.2.2.2.1 && mayF 3 t.1.2.2.2.1 t.2.2.2.2.1 && mayF 4 t.1.2.2.2.2 t.2.2.2.2.2
theorem mayT_eq (c : CR) : mayC c = mayT (tup c) := rfl
def wtxT (t : (List Int × List Int × List Int × List Int × List Int) × (Bool × Bool × Bool × Bool × Bool)) : List UInt8 := Lib.join [ptx2 t.1.1 t.2.1, ptx2 t.1.2.1 t.2.2.1, ptx2 t.1.2.2.1 t.2.2.2.1, ptx2 t.1.2.2.2.1 t.2.2.2.2.1, ptx2 t.1.2.2.2.2 t.2.2.2.2.2] [32]
theorem wtxT_eq (c : CR) : wtx2 c = wtxT (tup c) := rfl
noncomputable def dayT (t : (List Int × List Int × List Int × List Int × List Int) × (Bool × Bool × Bool × Bool × Bool)) (y m d : Int) : Bool := okB y m d && mayT t && hasB t.1.2.2.2.1 m && (if (t.2.2.2.1 || t.2.2.2.2.2) = true then hasB t.1.2.2.1 d && hasB t.1.2.2.2.2 (wd (ord y m d)) else hasB t.1.2.2.1 d || hasB t.1.2.2.2.2 (wd (ord y m d)))
theorem dayT_eq (c : CR) (y m d : Int) : dayC c y m d = dayT (tup c) y m d := rfl
noncomputable def matchT (t : (List Int × List Int × List Int × List Int × List Int) × (Bool × Bool × Bool × Bool × Bool)) (y m d h i s : Int) : Bool := mayB y m d h i s && decide (s = 0) && hasB t.1.1 i && hasB t.1.2.1 h && dayT t y m d
theorem matchT_eq (c : CR) (y m d h i s : Int) : matchC c y m d h i s = matchT (tup c) y m d h i s := rfl
theorem ex_A : ∃ c, prs sA = some c ∧ mayC c = true ∧ wtxt c = [51, 48, 32, 54, 32, 42, 32, 42, 32, 49, 44, 50, 44, 51, 44, 52, 44, 53] ∧ matchC c 2024 5 6 6 30 0 = true := by
  have h := prs_A
  cases hp : prs sA with
  | none => rw [hp] at h; cases h
  | some c =>
    rw [hp] at h
    have ht : tup c = _ := Option.some.inj h
    have hm : mayC c = true := by rw [mayT_eq, ht]; decide +kernel
    exact ⟨c, rfl, hm, by rw [wtxt_2 hm, wtxT_eq, ht]; decide +kernel, by rw [matchT_eq, ht]; decide +kernel⟩
theorem ex_B : ∃ c, prs sB = some c ∧ dayC c 2024 5 10 = true ∧ dayC c 2024 5 13 = true ∧ dayC c 2024 5 14 = false := by
  have h := prs_B
  cases hp : prs sB with
  | none => rw [hp] at h; cases h
  | some c =>
    rw [hp] at h
    have ht : tup c = _ := Option.some.inj h
    exact ⟨c, rfl, by rw [dayT_eq, ht]; decide +kernel, by rw [dayT_eq, ht]; decide +kernel, by rw [dayT_eq, ht]; decide +kernel⟩
theorem box_z (x : World) : (x.alloc (.cells z10 30)).heap[x.heap.size]? = some (.cells z10 30) := new_block x _
theorem box_k (x : World) (sl : Nat → Value) (st : Nat → Bool) : Kept x ((x.alloc (.cells z10 30)).setRow x.heap.size (cr10 sl st)) := ((Kept.refl x).alloc _).setRow (Nat.le_refl _) _
theorem box_b (x : World) (sl : Nat → Value) (st : Nat → Bool) : Cb x.heap.size sl st ((x.alloc (.cells z10 30)).setRow x.heap.size (cr10 sl st)) := setRow_heap _ _ _ _ _ _ (box_z x)
theorem rs_one {x : World} {v : Value} {l : List Int} (h : Rs x v l) : v.oneCell' = true := by
  obtain ⟨ad, c, rfl⟩ := h.slice; rfl
theorem cr_ones {x : World} {sl : Nat → Value} {L : Nat → List Int} (st : Nat → Bool) (h : Cr x sl L) : (cr10 sl st).all (·.oneCell') = true :=
  cr_one sl st (rs_one (h 0 (by omega))) (rs_one (h 1 (by omega))) (rs_one (h 2 (by omega))) (rs_one (h 3 (by omega))) (rs_one (h 4 (by omega)))
end Go.Proofs.YtilgamjahediiaaGreatDoor
/- What a text parses to, as one word for both parsers. -/
set_option linter.unusedVariables false
namespace Go.Proofs.YtilgamjahediiaaGreatDoor
open Go.ChangeShapes Go.WideShapes Go.ChangeAt Go.RowKit
open Crn Civ
/-- no schedule -/
def zC : CR := ⟨fun _ => [], fun _ => false⟩
def resP (l : List UInt8) : CR × Int := if 200 < l.length then (zC, 4) else match prs l with | none => (zC, 2) | some c => (c, 0)
theorem res_over {l : List UInt8} (h : 200 < l.length) : resP l = (zC, 4) := if_pos h
theorem res_some {l : List UInt8} {c : CR} (h : ¬ 200 < l.length) (hp : prs l = some c) : resP l = (c, 0) := by
  unfold resP; rw [if_neg h, hp]
theorem res_none {l : List UInt8} (h : ¬ 200 < l.length) (hp : prs l = none) : resP l = (zC, 2) := by
  unfold resP; rw [if_neg h, hp]
theorem res_cases (l : List UInt8) : (∃ d, resP l = (d, 0) ∧ prs l = some d) ∨ (resP l = (zC, 4) ∧ 200 < l.length) ∨ (resP l = (zC, 2) ∧ prs l = none) := by
  by_cases h : 200 < l.length
  · exact Or.inr (Or.inl ⟨res_over h, h⟩)
  · cases hp : prs l with
    | none => exact Or.inr (Or.inr ⟨res_none h hp, rfl⟩)
    | some c => exact Or.inl ⟨c, res_some h hp, rfl⟩
def zsl : Nat → Value := fun _ => .slice none 0 0
theorem z10_cr : (.agg z10 : Value) = crV zsl zC.st := rfl
theorem zC_cr (x : World) : Cr x zsl zC.L := fun i _ => Or.inl ⟨rfl, none, 0, rfl⟩
/-- a parse's result -/
theorem parse_res {l : List UInt8} {W W' : World} {e : Ending} (hp : ParsePost l W e W') : ∃ sl, e = .returned (.tuple #[crV sl (resP l).1.st, .int .i64 (resP l).2]) ∧ Cr W' sl (resP l).1.L ∧ Kept W W' := by
  unfold ParsePost at hp
  by_cases h : 200 < l.length
  · rw [if_pos h] at hp
    rw [res_over h]
    exact ⟨zsl, hp.1, zC_cr _, hp.2⟩
  · rw [if_neg h] at hp
    cases hq : prs l with
    | none =>
      rw [hq] at hp
      rw [res_none h hq]
      exact ⟨zsl, hp.1, zC_cr _, hp.2⟩
    | some c =>
      rw [hq] at hp
      rw [res_some h hq]
      obtain ⟨sl, h1, h2, h3⟩ := hp
      exact ⟨sl, h1, fun i hi => (h2 i hi).rs, h3⟩
theorem parse_as {l : List UInt8} {W W' : World} {e : Ending} {d : CR} {n : Int} (hd : resP l = (d, n)) (hp : ParsePost l W e W') : ∃ sl, e = .returned (.tuple #[crV sl d.st, .int .i64 n]) ∧ Cr W' sl d.L ∧ Kept W W' := by
  have := parse_res hp
  rw [hd] at this
  exact this
end Go.Proofs.YtilgamjahediiaaGreatDoor
