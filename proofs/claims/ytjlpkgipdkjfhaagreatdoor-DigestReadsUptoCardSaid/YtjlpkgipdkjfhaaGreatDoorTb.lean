import Derived.Test.YtjlpkgipdkjfhaaGreatDoorTd
import Derived.Test.YtjlpkgipdkjfhaaGreatDoorPtW
import Derived.Test.YtjlpkgipdkjfhaaGreatDoorQpE
set_option linter.unusedVariables false
set_option linter.unusedSimpArgs false
namespace Go.Proofs.YtjlpkgipdkjfhaaGreatDoor.Bk.Pt
open Go.ChangeShapes Go.WideShapes Go.ChangeAt Go.RowKit Go.Shelf
open Hd (SRd)
def okJ (ks ls : List B) : Bool := decide (ks.length = ls.length) && okP (ks.zip ls)
def jB (ks ls : List B) : B := if okJ ks ls = true then joined (ks.zip ls) else []
def jX (ks ls : List B) : B := if okJ ks ls = true then b0 else []
def jE (ks ls : List B) : Int := if okJ ks ls = true then 0 else 1
theorem okJ_iff {ks ls : List B} : okJ ks ls = true ↔ ks.length = ls.length ∧ (1 ≤ ls.length ∧ ls.length ≤ 8) ∧ ∀ k ∈ ks, kd k = true := by
  unfold okJ
  rw [Bool.and_eq_true, decide_eq_true_eq, okP_iff, List.length_zip]
  constructor
  · rintro ⟨h, h2, h3⟩
    refine ⟨h, by omega, fun k hk => ?_⟩
    obtain ⟨i, hi, rfl⟩ := List.mem_iff_getElem.1 hk
    have : (ks.zip ls)[i]? = some (ks[i], ls[i]'(by omega)) := by simp [List.getElem?_zip_eq_some]
    exact h3 _ (List.mem_of_getElem? this)
  · rintro ⟨h, h2, h3⟩
    refine ⟨h, by omega, fun x hx => h3 _ (List.of_mem_zip hx).1⟩
theorem j_no {ks ls : List B} (h : ¬ okJ ks ls = true) : jB ks ls = [] ∧ jX ks ls = [] ∧ jE ks ls = 1 := by
  unfold jB jX jE
  rw [if_neg h, if_neg h, if_neg h]
  exact ⟨rfl, rfl, rfl⟩
theorem j_yes {ks ls : List B} (h : okJ ks ls = true) : jB ks ls = joined (ks.zip ls) ∧ jX ks ls = b0 ∧ jE ks ls = 0 := by
  unfold jB jX jE
  rw [if_pos h, if_pos h, if_pos h]
  exact ⟨rfl, rfl, rfl⟩
def Cod (w : World) (c : Nat) (ls : List B) (i : Nat) (y : World) : Prop := Kept w y ∧ w.heap.size ≤ c ∧ ∃ vs : List Value, y.heap[c]? = some (.cells vs.toArray 25) ∧ vs.length = ls.length ∧ ∀ (j : Nat) (b : B), j < i → ls[j]? = some b → ∃ x, vs[j]? = some x ∧ BRd x (Qp.enc 0 b) y ∧ Apart x (.slice (some ⟨c, 0, none⟩) 0 0) (Qp.enc 0 b)
theorem Cod.kept {w y z : World} {c : Nat} {ls : List B} {i : Nat} (h : Cod w c ls i y) (k : Kept y z) : Cod w c ls i z := by
  obtain ⟨h1, h2, vs, h3, h4, h5⟩ := h
  refine ⟨h1.trans k, h2, vs, (k.block c (Array.getElem?_eq_some_iff.1 h3).1).trans h3, h4, fun j b hj hb => ?_⟩
  obtain ⟨x, e1, e2, e3⟩ := h5 j b hj hb
  exact ⟨x, e1, e2.kept k, e3⟩
theorem Cod.cell {w y : World} {c : Nat} {ls : List B} {i : Nat} (h : Cod w c ls i y) {j : Nat} (hj : j < ls.length) : ∃ x, y.cell? ⟨c, j, none⟩ = some x := by
  obtain ⟨_, _, vs, h3, h4, _⟩ := h
  have hx : vs[j]? = some (vs[j]'(by omega)) := List.getElem?_eq_getElem (by omega)
  exact ⟨_, Hd.cell_at h3 (by rw [List.getElem?_toArray]; exact hx)⟩
theorem Cod.frz {w y : World} {c : Nat} {ls : List B} {i : Nat} (h : Cod w c ls i y) (j : Nat) : y.frozen? ⟨c, j, none⟩ = false := by
  obtain ⟨_, _, vs, h3, _, _⟩ := h
  simp [World.frozen?, h3]
theorem Cod.lt {w y : World} {c : Nat} {ls : List B} {i : Nat} (h : Cod w c ls i y) : c < y.heap.size := by
  obtain ⟨_, _, vs, h3, _, _⟩ := h
  exact (Array.getElem?_eq_some_iff.1 h3).1
theorem BRd.set {v : Value} {l : B} {y : World} (h : BRd v l y) {c : Nat} (ha : l ≠ [] → v.ownBlock ≠ some c) (o : Nat) (x : Value) : BRd v l (y.setCell ⟨c, o, none⟩ x) := by
  obtain ⟨a, cp, hv, hz, h⟩ := h
  refine ⟨a, cp, hv, hz, fun hne => ?_⟩
  obtain ⟨g, o', ha', hc, hp⟩ := h hne
  refine ⟨g, o', ha', hc, fun i b hb => ?_⟩
  have hg : g ≠ c := fun e => ha hne (by rw [hv, ha', e]; rfl)
  have := hp i b hb
  unfold World.cell? at this ⊢
  rw [Below.heap_setCell _ _ _ _ hg]
  exact this
theorem Cod.put {w y : World} {c : Nat} {ls : List B} {i : Nat} {b : B} (h : Cod w c ls i y) (hb : ls[i]? = some b) {x : Value} {B0 : Nat} (hx : OwnB B0 x (Qp.enc 0 b) y) : Cod w c ls (i + 1) (y.setCell ⟨c, i, none⟩ x) := by
  obtain ⟨h1, h2, vs, h3, h4, h5⟩ := h
  have hxa : Apart x (.slice (some ⟨c, 0, none⟩) 0 0) (Qp.enc 0 b) := by
    intro _ r hr e
    obtain ⟨k, hk⟩ := own_kind hx r e
    simp [Value.ownBlock] at hr
    subst hr
    rw [h3] at hk
    cases hk
  have hi := (List.getElem?_eq_some_iff.1 hb).1
  refine ⟨kept_set h1 h2 i x, h2, vs.set i x, ?_, by rw [List.length_set]; exact h4, fun j d hj hd => ?_⟩
  · simp [World.setCell, Array.getElem?_modify, h3]
  · by_cases e : j = i
    · subst e
      rw [hb] at hd
      cases hd
      exact ⟨x, by rw [List.getElem?_set_self (by omega)], BRd.set hx.rd (fun hne => hxa hne c rfl) _ _, hxa⟩
    · obtain ⟨v, e1, e2, e3⟩ := h5 j d (by omega) hd
      exact ⟨v, by rw [List.getElem?_set_ne (by omega)]; exact e1, BRd.set e2 (fun hne => e3 hne c rfl) _ _, e3⟩
theorem Cod.rd {w y : World} {c : Nat} {ls : List B} {n : Nat} (h : Cod w c ls n y) (hn : n = ls.length) : LRd (.slice (some ⟨c, 0, none⟩) n n) (ls.map (Qp.enc 0)) y := by
  subst hn
  obtain ⟨h1, h2, vs, h3, h4, h5⟩ := h
  refine ⟨_, _, by rw [List.length_map], fun e => (by cases e), fun _ => ⟨c, 0, rfl, by rw [List.length_map]; exact Nat.le_refl _, fun i b hb => ?_⟩⟩
  rw [List.getElem?_map, Option.map_eq_some_iff] at hb
  obtain ⟨d, hd, rfl⟩ := hb
  obtain ⟨x, e1, e2, _⟩ := h5 i d (List.getElem?_eq_some_iff.1 hd).1 hd
  exact ⟨x, by rw [Nat.zero_add]; exact Hd.cell_at h3 (by rw [List.getElem?_toArray]; exact e1), e2⟩
theorem sum_enc (M : Nat) : ∀ ls : List B, (∀ b ∈ ls, b.length ≤ M) → sum (ls.map (Qp.enc 0)) ≤ ls.length * (6 * M)
  | [], _ => by simp [sum]
  | b :: ls, h => by
    have h1 := Qp.enc_len b 0
    have h2 := h b (by simp)
    have h3 := sum_enc M ls (fun x hx => h x (by simp [hx]))
    simp only [List.map_cons, sum, List.length_cons, Nat.add_mul]
    have : 6 * b.length ≤ 6 * M := Nat.mul_le_mul_left _ h2
    omega
theorem free_enc (ls : List B) : free (all (ls.map (Qp.enc 0))) = 0 := by
  have : all (ls.map (Qp.enc 0)) = [] := by
    unfold all
    rw [List.flatMap_eq_nil_iff]
    intro b hb
    obtain ⟨a, _, rfl⟩ := List.mem_map.1 hb
    exact enc_nums a
  rw [this]; rfl
def pre (ks ls : List B) (i : Nat) : B := ((ks.zip ls).take i).flatMap fun p => dl ++ pc p
theorem pcX_eq (k b : B) : pcX b0 k (Qp.enc 0 b) = dl ++ pc (k, b) := by unfold pcX pc dl b0; simp
theorem pre_next {ks ls : List B} {i : Nat} {k b : B} (hk : ks[i]? = some k) (hb : ls[i]? = some b) : pre ks ls (i + 1) = pre ks ls i ++ pcX b0 k (Qp.enc 0 b) := by
  have : (ks.zip ls)[i]? = some (k, b) := by rw [List.getElem?_zip_eq_some]; exact ⟨hk, hb⟩
  unfold pre
  rw [List.take_add_one, this, List.flatMap_append, pcX_eq]; simp
theorem joined_pre : ∀ l : List (B × B), joined l = (l.flatMap fun p => dl ++ pc p) ++ (dl ++ fin)
  | [] => rfl
  | x :: l => by rw [joined, joined_pre l, List.flatMap_cons]; simp
theorem pre_end {ks ls : List B} (h : ks.length = ls.length) : pre ks ls ls.length ++ ([45, 45] ++ b0 ++ [45, 45] ++ [13, 10]) = joined (ks.zip ls) := by
  rw [joined_pre]
  unfold pre
  rw [List.take_of_length_le (by rw [List.length_zip]; omega)]
  rfl
theorem pcX_len {x k c : B} (hk : k.length ≤ 4000) (hx : x.length ≤ 1000) : (pcX x k c).length ≤ 300000 + c.length := by
  have := hds_len hk
  unfold pcX
  simp only [List.length_append, List.length_cons, List.length_nil]
  omega
theorem map_at {ls : List B} {i : Nat} {b : B} (h : ls[i]? = some b) : (ls.map (Qp.enc 0))[i]? = some (Qp.enc 0 b) := by
  rw [List.getElem?_map, h]; rfl
set_option maxRecDepth 100000 in
set_option maxHeartbeats 4000000 in
theorem pairs_any (w1 : World) (b : Nat) (kv lv mv : Value) (ks ls : List B) (n : Nat) (w : World) (hk : SRd kv ks w1) (hl : LRd lv (ls.map (Qp.enc 0)) w1) (hE : Env w1) (h : WrI w1 b mv [] b0 w) (hn : ks.length = n) (hn2 : ls.length = n) (hn8 : n ≤ 8) (hkb : ∀ k ∈ ks, k.length ≤ 4000) (hlb : ∀ c ∈ ls, c.length ≤ 40000000) :
    Calls Tryz.prog 95 #[kv, lv, .func (.func 96) #[.pointer (some ⟨b, 0, none⟩)] #[]] w fun e w' => e = .returned (.tuple #[]) ∧ (∃ mv', WrI w1 b mv' (pre ks ls n) b0 w') ∧ (pre ks ls n).length ≤ n * 300000000 := by
  obtain ⟨ka, kc, rfl⟩ := hk.slice
  obtain ⟨la, lc, rfl⟩ := hl.slice
  have HK := Lib.hid hk
  have HL := Lib.hid hl
  have HE := Lib.hid hE
  have H0 := Lib.hid h
  have HKB := Lib.hid hkb
  have HLB := Lib.hid hlb
  have HN := Lib.hid hn
  have HN2 := Lib.hid hn2
  have hml : (ls.map (Qp.enc 0)).length = n := by rw [List.length_map]; exact hn2
  rw [hn, hml]
  rw [hn] at HK
  rw [hml] at HL
  clear hk hl hE h hkb hlb hn hn2 hml
  go_enter Tryz.func95, Tryz.ntmps95
  go_wp2_with fail
  go_loopw [6, 7, 10] (fun _ _ vi wr => ∃ (i : Nat) (mv' : Value), i ≤ n ∧ vi = .int .i64 i ∧ Hid (WrI w1 b mv' (pre ks ls i) b0 wr) ∧ Hid ((pre ks ls i).length ≤ i * 300000000)) (fun _ _ vi _ => n - (intOf vi).toNat)
  case atStart => exact ⟨0, mv, Nat.zero_le _, rfl, H0, Lib.hid (by simp [pre])⟩
  case round =>
    obtain ⟨i, mv', hi, rfl, hW, hL⟩ := hrel
    by_cases hlt : i < n
    · have hltI : (i : Int) < n := by omega
      obtain ⟨k, hk⟩ : ∃ k, ks[i]? = some k := ⟨_, List.getElem?_eq_getElem (by have := HN.out; omega)⟩
      obtain ⟨d, hd⟩ : ∃ d, ls[i]? = some d := ⟨_, List.getElem?_eq_getElem (by have := HN2.out; omega)⟩
      obtain ⟨g, o, c, hv, hc, c0⟩ := HK.out.at hk
      obtain ⟨g2, o2, c2, x, hv2, hc2, d0, hx⟩ := HL.out.at (map_at hd)
      rw [HN.out] at hv hc
      rw [List.length_map, HN2.out] at hv2 hc2
      cases hv
      cases hv2
      have c1 := hW.out.1.yes c0
      have d1 := hW.out.1.yes d0
      have HX := Lib.hid hx
      have hkl := HKB.out k (List.mem_of_getElem? hk)
      have hdl := HLB.out d (List.mem_of_getElem? hd)
      have hel := Qp.enc_len d 0
      have HP := Lib.hid (pre_next hk hd)
      have hpl := pcX_len (x := b0) (k := k) (c := Qp.enc 0 d) hkl (by decide)
      obtain ⟨xa, xc, rfl⟩ := hx.slice
      have HC := Lib.hid (part_any w1 b mv' (.slice xa (Qp.enc 0 d).length xc) (pre ks ls i) b0 k (Qp.enc 0 d) wr hW.out HE.out HX.out hkl (by decide) (by omega) (by have := hL.out; have : i * 300000000 ≤ 8 * 300000000 := Nat.mul_le_mul_right _ (by omega); omega))
      have HL2 := Lib.hid (show (pre ks ls (i + 1)).length ≤ (i + 1) * 300000000 by rw [HP.out, List.length_append]; have := hL.out; omega)
      rw [← HP.out] at HC
      clear hk hd hx hpl hel hkl hdl c0 d0 HP
      generalize (Qp.enc 0 d).length = dn at *
      go_wp2_with fail
      refine HC.out.mono ?_
      rintro e y ⟨rfl, mv2, hw2⟩
      have HW2 := Lib.hid hw2
      clear hw2 HC hW hL
      go_wp2
      go_roundw
      case rel => exact ⟨i + 1, mv2, hlt, by go_num, HW2, HL2⟩
      case measure => simp [intOf]; omega
    · obtain rfl : i = n := by omega
      have hltI : ¬ (i : Int) < i := by omega
      go_wp2
      go_end0
      exact ⟨rfl, ⟨mv', hW.out⟩, hL.out⟩
end Go.Proofs.YtjlpkgipdkjfhaaGreatDoor.Bk.Pt
