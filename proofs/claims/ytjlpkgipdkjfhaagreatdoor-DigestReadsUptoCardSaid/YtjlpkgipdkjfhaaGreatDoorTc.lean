import Derived.Test.YtjlpkgipdkjfhaaGreatDoorPtB
import Derived.Test.YtjlpkgipdkjfhaaGreatDoorHd
import Derived.Test.YtjlpkgipdkjfhaaGreatDoorShelf
import Derived.Deep.Cut
set_option linter.unusedVariables false
set_option linter.unusedSimpArgs false
namespace Go.Proofs.YtjlpkgipdkjfhaaGreatDoor.Bk.Pt
open Go.ChangeShapes Go.WideShapes Go.ChangeAt Go.RowKit Go.Shelf
open Hd (bytesOf_nat getD_nat cell_at)
theorem BRd.parts {a : Option Addr} {n c : Nat} {l : B} {w : World} (h : BRd (.slice a n c) l w) : n = l.length ∧ Lib.BytesIn w a n (l.map fun b => (b.toNat : Int)) ∧ (a = none → c = 0) ∧ n ≤ c := by
  obtain ⟨a', c', hv, hz, h⟩ := h
  cases hv
  refine ⟨rfl, fun hn => ?_, hz, ?_⟩
  · obtain ⟨g, o, rfl, _, hc⟩ := h (by rintro rfl; simp at hn)
    exact ⟨g, o, rfl, fun i hi => by rw [getD_nat l i hi]; exact hc i _ (List.getElem?_eq_getElem hi)⟩
  · by_cases hl : l = []
    · subst hl; exact Nat.zero_le _
    · obtain ⟨g, o, _, hc, _⟩ := h hl; exact hc
theorem nat_ok (q : B) : ∀ x ∈ (q.map fun b => (b.toNat : Int)), 0 ≤ x ∧ x < 256 := fun x hx => by
  obtain ⟨b, _, rfl⟩ := List.mem_map.1 hx
  have := b.toNat_lt; omega
theorem BRd.behind {a : Option Addr} {n c : Nat} {l : B} {w : World} (h : BRd (.slice a n c) l w) (j : Nat) (hj : j ≤ l.length) : BRd (.slice (if c = j then a else a.map (fun x => x.add j)) (n - j) (c - j)) (l.drop j) w := by
  obtain ⟨hn, _, hz, hc⟩ := BRd.parts h
  obtain ⟨a', c', hv, _, h⟩ := h
  cases hv
  refine ⟨_, c - j, by rw [List.length_drop], fun e => ?_, fun hne => ?_⟩
  · split at e
    · have := hz e; omega
    · cases a with
      | none => have := hz rfl; omega
      | some a => simp at e
  · have hlt : j < l.length := by
      rcases Nat.lt_or_ge j l.length with q | q
      · exact q
      · exact absurd (List.drop_eq_nil_of_le q) hne
    obtain ⟨g, o, rfl, _, hp⟩ := h (by rintro rfl; simp at hlt)
    rw [if_neg (by omega)]
    refine ⟨g, o + j, by simp [Addr.add_lit], by rw [List.length_drop]; omega, fun i x hx => ?_⟩
    rw [List.getElem?_drop] at hx
    rw [Nat.add_assoc]; exact hp _ _ hx
theorem BRd.upto {a : Option Addr} {n c : Nat} {l : B} {w : World} (h : BRd (.slice a n c) l w) (j : Nat) (hj : j ≤ l.length) : BRd (.slice a j c) (l.take j) w := by
  obtain ⟨a', c', hv, hz, h⟩ := h
  cases hv
  have hlen : (l.take j).length = j := by simp; omega
  refine ⟨a, c, by rw [hlen], hz, fun hne => ?_⟩
  obtain ⟨g, o, ha, hc, h⟩ := h (by rintro rfl; simp at hne)
  refine ⟨g, o, ha, by rw [hlen]; omega, fun i x hx => ?_⟩
  rw [List.getElem?_take] at hx
  split at hx
  · exact h _ _ hx
  · cases hx
theorem cutB_any (v u : Value) (l p : B) (w : World) (hv : BRd v l w) (hu : BRd u p w) (hE : Env w) (hll : l.length ≤ 4000000000) (hpl : p.length ≤ 1000) :
    Calls Tryz.prog 199 #[v, u] w fun e w' => ∃ x y, e = .returned (.tuple #[x, y, .bool (decide (0 ≤ Lib.index l p))]) ∧ (∀ i : Nat, Lib.index l p = i → ∀ W : World, BRd v l W → BRd y (l.drop (i + p.length)) W) ∧ (∃ a n c, x = .slice a n c) ∧ (∃ a n c, y = .slice a n c) ∧ Kept w w' := by
  obtain ⟨m, hm⟩ := hE
  obtain ⟨a1, c1, rfl⟩ := hv.slice
  obtain ⟨a2, c2, rfl⟩ := hu.slice
  obtain ⟨_, h1, z1, k1⟩ := BRd.parts hv
  obtain ⟨_, h2, z2, k2⟩ := BRd.parts hu
  refine (Tryz.bytes_Cut_all a1 a2 l.length c1 p.length c2 _ _ m w (by simp) (by simp) (nat_ok l) (nat_ok p) h1 h2 z1 k1 (by omega) (by omega) hm).mono ?_
  rintro e w' ⟨rfl, q, rfl⟩
  rw [bytesOf_nat, bytesOf_nat]
  have hroom := Lib.index_room l p
  unfold Lib.cutV
  by_cases hi : 0 ≤ Lib.index l p
  · rw [if_pos hi, decide_eq_true hi]
    refine ⟨_, _, rfl, fun i he W hW => ?_, ⟨_, _, _, rfl⟩, ⟨_, _, _, rfl⟩, (Kept.refl w).drewN q⟩
    rw [he]
    have hr := hroom hi
    exact BRd.behind hW (i + p.length) (by omega)
  · rw [if_neg hi, decide_eq_false hi]
    exact ⟨_, _, rfl, fun i he => by omega, ⟨_, _, _, rfl⟩, ⟨_, _, _, rfl⟩, (Kept.refl w).drewN q⟩
theorem trimP_any (v u : Value) (l p : B) (w : World) (hv : BRd v l w) (hu : BRd u p w) (hp : p ≠ []) :
    Calls Tryz.prog 135 #[v, u] w fun e w' => ∃ x, e = .returned x ∧ BRd x (Lib.trimPrefix l p) w ∧ w' = w := by
  obtain ⟨a1, c1, rfl⟩ := hv.slice
  obtain ⟨a2, c2, rfl⟩ := hu.slice
  obtain ⟨_, h1, z1, k1⟩ := BRd.parts hv
  obtain ⟨_, h2, z2, k2⟩ := BRd.parts hu
  refine (Tryz.bytes_TrimPrefix_all a1 a2 l.length c1 p.length c2 _ _ w (by simp) (by simp) k1 h1 h2).mono ?_
  rintro e w' ⟨rfl, rfl⟩
  refine ⟨_, rfl, ?_, rfl⟩
  by_cases hl : l = []
  · subst hl
    have e : Lib.trimPrefix [] p = [] := by unfold Lib.trimPrefix; split <;> simp
    rw [e]
    have hn : ∀ q : Value, (∃ a c, q = .slice a 0 c ∧ (a = none → c = 0)) → BRd q [] w' := fun q ⟨a, c, hq, hz⟩ => ⟨a, c, hq, hz, fun h => absurd rfl h⟩
    refine hn _ ?_
    unfold Lib.trimPrefixV
    split
    · unfold Lib.bytesTrimPrefix Lib.sliceFrom
      split
      · split
        · exact ⟨_, _, by rw [List.length_nil, Nat.zero_sub], fun e => by cases e⟩
        · exact ⟨_, _, by rw [List.length_nil, Nat.zero_sub], fun e => by cases e⟩
      · exact ⟨_, _, rfl, fun e => by cases e⟩
    · exact ⟨_, _, rfl, z1⟩
  · obtain ⟨g, o, rfl, _⟩ := h1 (List.length_pos_iff.2 hl)
    cases p with
    | nil => exact absurd rfl hp
    | cons y p =>
      unfold Lib.trimPrefixV Lib.bytesTrimPrefix Lib.trimPrefix
      simp only [List.map_cons]
      rw [← List.map_cons (f := fun b : UInt8 => (b.toNat : Int)), bytesOf_nat, bytesOf_nat]
      cases hh : Lib.hasPrefix l (y :: p) with
      | true =>
        rw [if_pos rfl, if_pos rfl]
        have hb := BRd.behind hv (y :: p).length (by unfold Lib.hasPrefix at hh; exact (List.isPrefixOf_iff_prefix.1 hh).length_le)
        unfold Lib.sliceFrom
        rw [List.length_map]
        simpa [Addr.add_lit] using hb
      | false => simpa using hv
theorem trimS_any (v u : Value) (l p : B) (w : World) (hv : BRd v l w) (hu : BRd u p w) (hp : p ≠ []) (hl63 : l.length ≤ 9223372036854775807) :
    Calls Tryz.prog 137 #[v, u] w fun e w' => ∃ x, e = .returned x ∧ BRd x (Lib.trimSuffix l p) w ∧ w' = w := by
  obtain ⟨a1, c1, rfl⟩ := hv.slice
  obtain ⟨a2, c2, rfl⟩ := hu.slice
  obtain ⟨_, h1, z1, k1⟩ := BRd.parts hv
  obtain ⟨_, h2, z2, k2⟩ := BRd.parts hu
  refine (Tryz.bytes_TrimSuffix_all a1 a2 l.length c1 p.length c2 _ _ w (by simp) (by simp) k1 hl63 h1 h2).mono ?_
  rintro e w' ⟨rfl, rfl⟩
  refine ⟨_, rfl, ?_, rfl⟩
  by_cases hl : l = []
  · subst hl
    have e : Lib.trimSuffix [] p = [] := by unfold Lib.trimSuffix; split <;> simp
    rw [e]
    have hn : ∀ q : Value, (∃ a c, q = .slice a 0 c ∧ (a = none → c = 0)) → BRd q [] w' := fun q ⟨a, c, hq, hz⟩ => ⟨a, c, hq, hz, fun h => absurd rfl h⟩
    refine hn _ ?_
    unfold Lib.trimSuffixV
    split
    · unfold Lib.bytesTrimSuffix Lib.sliceTo
      split
      · exact ⟨_, _, by rw [List.length_nil, Nat.zero_sub], fun e => by cases e⟩
      · exact ⟨_, _, rfl, fun e => by cases e⟩
    · exact ⟨_, _, rfl, z1⟩
  · obtain ⟨g, o, rfl, _⟩ := h1 (List.length_pos_iff.2 hl)
    cases p with
    | nil => exact absurd rfl hp
    | cons y p =>
      unfold Lib.trimSuffixV Lib.bytesTrimSuffix Lib.trimSuffix
      simp only [List.map_cons]
      rw [← List.map_cons (f := fun b : UInt8 => (b.toNat : Int)), bytesOf_nat, bytesOf_nat]
      cases hh : Lib.hasSuffix l (y :: p) with
      | true =>
        rw [if_pos rfl, if_pos rfl]
        have hb := BRd.upto hv (l.length - (y :: p).length) (by omega)
        unfold Lib.sliceTo
        rw [List.length_map]
        exact hb
      | false => simpa using hv
theorem addr0 (a : Addr) : a.add 0 = a := by cases a; simp [Addr.add]
theorem splitN_any (v u : Value) (l p : B) (w : World) (hv : BRd v l w) (hu : BRd u p w) (hE : Env w) (hp : 2 ≤ p.length) (hpl : p.length ≤ 1000) (hll : l.length ≤ 4000000000) (hcap : ∀ a n c, v = .slice a n c → c ≤ 9223372036854775807) :
    Calls Tryz.prog 90 #[v, u, iV 10] w fun e w' => ∃ x, e = .returned x ∧ LRd x (Lib.splitK p 0 (min 10 (l.length + 1) - 1) l) w' ∧ Kept w w' := by
  obtain ⟨m, hm⟩ := hE
  obtain ⟨a1, c1, rfl⟩ := hv.slice
  obtain ⟨a2, c2, rfl⟩ := hu.slice
  obtain ⟨_, h1, z1, k1⟩ := BRd.parts hv
  obtain ⟨_, h2, z2, k2⟩ := BRd.parts hu
  have hc63 := hcap _ _ _ rfl
  cases a1 with
  | none =>
    have hc := z1 rfl
    subst hc
    have hl : l = [] := List.length_eq_zero_iff.1 (by omega)
    subst hl
    refine (Tryz.bytes_SplitN_nil a2 p.length c2 w (by omega) (by omega) (fun h => by omega) 10 (by omega) (by omega)).mono ?_
    rintro e w' ⟨rfl, rfl⟩
    refine ⟨_, rfl, ⟨_, _, rfl, fun e => (by cases e), fun _ => ⟨_, _, rfl, Nat.le_refl _, fun i b hb => ?_⟩⟩, (Kept.refl w).alloc _⟩
    have hs : Lib.splitK p 0 (min 10 (([] : B).length + 1) - 1) [] = [[]] := rfl
    rw [hs] at hb
    cases i with
    | zero =>
      simp at hb; subst hb
      exact ⟨.slice none 0 0, cell_at (World.alloc_heap_new w _) rfl, ⟨none, 0, rfl, fun _ => rfl, fun h => absurd rfl h⟩⟩
    | succ i => simp at hb
  | some a1 =>
    obtain ⟨g2, o2, rfl, hc2⟩ := h2 (by omega)
    refine (Tryz.bytes_SplitN a1 ⟨g2, o2, none⟩ l.length c1 p.length c2 (l.map fun b => (b.toNat : Int)) (p.map fun b => (b.toNat : Int)) m w (by simp) (by simp) (nat_ok l) (nat_ok p) (fun i hi => ?_) (fun i hi => ?_) k1 (by omega) (by omega) hc63 (by omega) hm 10 (by omega) (by omega)).mono ?_
    · obtain ⟨g1, o1, e1, hc1⟩ := h1 (by omega)
      injection e1 with e1
      subst e1
      rw [Addr.add_lit]; exact hc1 i hi
    · rw [Addr.add_lit]; exact hc2 i hi
    · rintro e w' ⟨rfl, q, rfl⟩
      rw [bytesOf_nat, bytesOf_nat]
      have hpne : p ≠ [] := by rintro rfl; simp at hp
      have hspec := Lib.splitV_spec p 0 hpne (Nat.zero_le _) (min 10 (l.length + 1) - 1) a1 c1 l k1
      have hlen := Lib.splitV_length p 0 (min 10 (l.length + 1) - 1) a1 c1 l
      generalize Lib.splitV p 0 (min 10 (l.length + 1) - 1) a1 c1 l = V at *
      have hle : (Lib.splitK p 0 (min 10 (l.length + 1) - 1) l).length ≤ min 10 (l.length + 1) := by
        have : ∀ (f : Nat) (s : B), (Lib.splitK p 0 f s).length ≤ f + 1 := by
          intro f
          induction f with
          | zero => intro s; simp [Lib.splitK]
          | succ f ih =>
            intro s
            unfold Lib.splitK
            split
            · simp
            · have := ih (s.drop ((Lib.index s p).toNat + p.length)); simp; omega
        have := this (min 10 (l.length + 1) - 1) l
        omega
      have k3 := ((Kept.refl w).alloc (.cells (Lib.cellsOfV V (min 10 (l.length + 1))) 25))
      have hnew : ((w.alloc (.cells (Lib.cellsOfV V (min 10 (l.length + 1))) 25)).drewN q).heap[w.heap.size]? = some (.cells (Lib.cellsOfV V (min 10 (l.length + 1))) 25) := World.alloc_heap_new w _
      refine ⟨_, rfl, ⟨_, _, by rw [hlen], fun e => (by cases e), fun _ => ⟨_, _, rfl, hle, fun i b hb => ?_⟩⟩, k3.drewN q⟩
      obtain ⟨x, hx⟩ : ∃ x, V[i]? = some x := ⟨_, List.getElem?_eq_getElem (by rw [hlen]; exact (List.getElem?_eq_some_iff.1 hb).1)⟩
      refine ⟨x, ?_, ?_⟩
      · rw [Nat.zero_add]
        refine cell_at hnew ?_
        unfold Lib.cellsOfV
        rw [List.getElem?_toArray, List.getElem?_append_left (List.getElem?_eq_some_iff.1 hx).1, hx]
      · obtain ⟨a', off, len, cp, rfl, hlc, hol, hpc, hadr⟩ := hspec i x hx
        rw [hpc] at hb
        injection hb with hb
        have hbl : b.length = len := by rw [← hb]; simp; omega
        refine ⟨some a', cp, by rw [hbl], fun e => (by cases e), fun hne => ?_⟩
        have hpos := List.length_pos_iff.2 hne
        obtain ⟨g1, o1, e1, hc1⟩ := h1 (by omega)
        injection e1 with e1
        subst e1
        have ha := hadr 0 (by omega)
        rw [addr0, Addr.add_lit] at ha
        subst ha
        refine ⟨g1, o1 + (off + 0), rfl, by omega, fun j y hy => ?_⟩
        have hlt := (List.getElem?_eq_some_iff.1 hy).1
        have := hc1 (off + j) (by omega)
        rw [getD_nat l (off + j) (by omega)] at this
        have e2 : l[off + j]? = some y := by
          rw [← hb, List.getElem?_take, if_pos (by omega), List.getElem?_drop] at hy; exact hy
        have e3 : l[off + j]'(by omega) = y := (List.getElem?_eq_some_iff.1 e2).2
        rw [e3] at this
        rw [Nat.add_zero, Nat.add_assoc]
        exact (k3.drewN q).yes this
end Go.Proofs.YtjlpkgipdkjfhaaGreatDoor.Bk.Pt
namespace Go.Proofs.YtjlpkgipdkjfhaaGreatDoor.Bk.Pt
open Go.ChangeShapes Go.WideShapes Go.ChangeAt Go.RowKit Go.Shelf
set_option maxRecDepth 100000 in
theorem isDigit_any (c : UInt8) (w : World) : Calls Tryz.prog 197 #[.int .u8 c.toNat] w fun e w' => e = .returned (.bool (isD c)) ∧ w' = w := by
  have HK := Lib.hid (show isD c = (decide (48 ≤ (c.toNat : Int)) && decide ((c.toNat : Int) ≤ 57)) by unfold isD; rw [← Bool.decide_and, ← Bool.decide_and]; exact decide_eq_decide.2 (by omega))
  by_cases h : 48 ≤ (c.toNat : Int)
  · go_enter Tryz.func197, Tryz.ntmps197
    go_wp2
    go_ret
    exact ⟨eb_ret (by rw [HK.out, decide_eq_true h, Bool.true_and]), rfl⟩
  · go_enter Tryz.func197, Tryz.ntmps197
    go_wp2
    go_ret
    exact ⟨eb_ret (by rw [HK.out, show decide (48 ≤ (c.toNat : Int)) = false by simpa using h, Bool.false_and]), rfl⟩
theorem mk_cases (c : UInt8) : mk c = true ∧ (c.toNat = 47 ∨ c.toNat = 45 ∨ c.toNat = 61 ∨ c.toNat = 59 ∨ c.toNat = 32) ∨ (¬ (c.toNat = 47 ∨ c.toNat = 45 ∨ c.toNat = 61 ∨ c.toNat = 59 ∨ c.toNat = 32) ∧ mk c = ((decide (97 ≤ (c.toNat : Int)) && decide ((c.toNat : Int) ≤ 122)) || isD c)) := by
  by_cases h : (c.toNat = 47 ∨ c.toNat = 45 ∨ c.toNat = 61 ∨ c.toNat = 59 ∨ c.toNat = 32)
  · refine Or.inl ⟨?_, h⟩
    unfold mk sgn
    rcases h with h | h | h | h | h <;> rw [h] <;> decide
  · refine Or.inr ⟨h, ?_⟩
    simp only [not_or] at h
    have e1 : decide (97 ≤ (c.toNat : Int)) = decide (97 ≤ c.toNat) := decide_eq_decide.2 (by omega)
    have e2 : decide ((c.toNat : Int) ≤ 122) = decide (c.toNat ≤ 122) := decide_eq_decide.2 (by omega)
    unfold mk sgn isD
    rw [e1, e2]
    simp [h]
set_option maxRecDepth 100000 in
set_option maxHeartbeats 1000000 in
theorem mayBe_any (c : UInt8) (w : World) : Calls Tryz.prog 138 #[.int .u8 c.toNat] w fun e w' => e = .returned (.bool (mk c)) ∧ w' = w := by
  rcases mk_cases c with ⟨hm, h⟩ | ⟨h, hm⟩
  · rw [hm]
    have hI : ((c.toNat : Int) = 47 ∨ (c.toNat : Int) = 45 ∨ (c.toNat : Int) = 61 ∨ (c.toNat : Int) = 59 ∨ (c.toNat : Int) = 32) := by omega
    clear hm h
    rcases hI with h | h | h | h | h
    all_goals
      rw [h]
      go_enter Tryz.func138, Tryz.ntmps138
      go_wp2
      go_ret
      exact ⟨rfl, rfl⟩
  · have h1 : ¬ (c.toNat : Int) = 47 := by omega
    have h2 : ¬ (c.toNat : Int) = 45 := by omega
    have h3 : ¬ (c.toNat : Int) = 61 := by omega
    have h4 : ¬ (c.toNat : Int) = 59 := by omega
    have h5 : ¬ (c.toNat : Int) = 32 := by omega
    have HM := Lib.hid hm
    have HD := Lib.hid (isDigit_any c w)
    clear hm h
    by_cases h6 : 97 ≤ (c.toNat : Int)
    · by_cases h7 : (c.toNat : Int) ≤ 122
      · go_enter Tryz.func138, Tryz.ntmps138
        go_wp2
        go_ret
        exact ⟨eb_ret (by rw [HM.out, decide_eq_true h6, decide_eq_true h7]; rfl), rfl⟩
      · go_enter Tryz.func138, Tryz.ntmps138
        go_wp2_with fail
        refine HD.out.mono ?_
        rintro e x ⟨rfl, rfl⟩
        go_wp2
        go_ret
        exact ⟨eb_ret (by rw [HM.out, decide_eq_false (show ¬ (c.toNat : Int) ≤ 122 by omega), Bool.and_false, Bool.false_or]), rfl⟩
    · go_enter Tryz.func138, Tryz.ntmps138
      go_wp2_with fail
      refine HD.out.mono ?_
      rintro e x ⟨rfl, rfl⟩
      go_wp2
      go_ret
      exact ⟨eb_ret (by rw [HM.out, decide_eq_false (show ¬ 97 ≤ (c.toNat : Int) by omega), Bool.false_and, Bool.false_or]), rfl⟩
theorem drop_cons {l : B} {i : Nat} {c : UInt8} (h : l[i]? = some c) : l.drop i = c :: l.drop (i + 1) := by
  obtain ⟨hi, rfl⟩ := List.getElem?_eq_some_iff.1 h
  exact List.drop_eq_getElem_cons hi
theorem kdA_cons {s : B} {i : Nat} {c : UInt8} (h : s[i]? = some c) (a : UInt8) : kdA a (s.drop i) = if c.toNat = 32 ∧ a.toNat = 32 then false else mk c && kdA c (s.drop (i + 1)) := by
  rw [drop_cons h, kdA]
theorem kdA_end {s : B} {i : Nat} (h : s.length ≤ i) (a : UInt8) : kdA a (s.drop i) = !decide (a.toNat = 32) := by rw [List.drop_eq_nil_of_le h, kdA]
set_option maxRecDepth 100000 in
set_option maxHeartbeats 4000000 in
theorem isKind_any (s : B) (w : World) (hl : s.length ≤ 140737488351232) : Calls Tryz.prog 92 #[sV s] w fun e w' => e = .returned (.bool (kd s)) ∧ Kept w w' := by
  have hss : (ByteArray.mk s.toArray).size = s.length := List.size_toArray
  obtain ⟨cp, y, hcv, ky, hy⟩ := to_bytes s w
  have KY := Lib.hid ky
  have HY := Lib.hid hy
  have HP := Lib.hid (fun (i : Nat) (c : UInt8) (h : s[i]? = some c) => hy.at h)
  clear hy ky
  generalize w.heap.size = kb at *
  go_enter Tryz.func92, Tryz.ntmps92
  go_wp2_with fail
  go_loopw [3, 5, 9] (fun va _ vi wr => ∃ (i : Nat) (a : UInt8), i ≤ s.length ∧ vi = .int .i64 i ∧ va = .int .u8 a.toNat ∧ Hid (kd s = (kdA a (s.drop i) && decide (s.length ≤ 60))) ∧ wr = y) (fun _ _ vi _ => s.length - (intOf vi).toNat)
  case atStart => exact ⟨0, 32, Nat.zero_le _, rfl, rfl, Lib.hid rfl, rfl⟩
  case round =>
    obtain ⟨i, a, hi, rfl, rfl, hK, rfl⟩ := hrel
    by_cases hlt : i < s.length
    · have hltI : (i : Int) < s.length := by omega
      obtain ⟨c, hc⟩ : ∃ c, s[i]? = some c := ⟨_, List.getElem?_eq_getElem hlt⟩
      obtain ⟨g, o, cc, hv, hcp, c0⟩ := HP.out i c hc
      cases hv
      rw [Nat.zero_add] at c0
      have HS := Lib.hid (kdA_cons hc a)
      clear hc
      by_cases h1 : (c.toNat : Int) = 32
      · by_cases h2 : (a.toNat : Int) = 32
        · have HZ := Lib.hid (show kd s = false by rw [hK.out, HS.out, if_pos ⟨by omega, by omega⟩, Bool.false_and])
          rw [h1] at c0
          clear hK HS
          go_wp2
          go_ret
          exact ⟨eb_ret HZ.out.symm, KY.out⟩
        · have HZ := Lib.hid (show kd s = (kdA c (s.drop (i + 1)) && decide (s.length ≤ 60)) by
            rw [hK.out, HS.out, if_neg (by omega)]
            have : mk c = true := by unfold mk; rw [decide_eq_true (show c.toNat = 32 by omega), Bool.or_true]
            rw [this, Bool.true_and])
          have HC := Lib.hid (show ∀ w, Calls Tryz.prog 138 #[.int .u8 32] w fun e w' => e = .returned (.bool true) ∧ w' = w from mayBe_any 32)
          clear hK HS
          have hc32 : c = 32 := UInt8.toNat_inj.1 (by rw [show (32 : UInt8).toNat = 32 from rfl]; omega)
          subst hc32
          rw [show ((32 : UInt8).toNat : Int) = 32 from rfl] at c0
          clear h1
          go_wp2_with fail
          refine (HC.out _).mono ?_
          rintro e x ⟨rfl, rfl⟩
          go_wp2
          go_roundw
          case rel => exact ⟨i + 1, 32, hlt, by go_num, rfl, HZ, by first | rfl | exact trivial⟩
          case measure => simp [intOf]; omega
      · have HZ := Lib.hid (show kd s = ((mk c && kdA c (s.drop (i + 1))) && decide (s.length ≤ 60)) by rw [hK.out, HS.out, if_neg (by omega)])
        have HC := Lib.hid (mayBe_any c)
        clear hK HS
        go_wp2_with fail
        refine (HC.out _).mono ?_
        rintro e x ⟨rfl, rfl⟩
        cases hm : mk c with
        | false =>
          have HF := Lib.hid (show kd s = false by rw [HZ.out, hm, Bool.false_and, Bool.false_and])
          clear hm
          go_wp2
          go_ret
          exact ⟨eb_ret HF.out.symm, KY.out⟩
        | true =>
          have HM := Lib.hid hm
          clear hm
          go_wp2
          go_roundw
          case rel => exact ⟨i + 1, c, hlt, by go_num, rfl, Lib.hid (by rw [HZ.out, HM.out, Bool.true_and]), by first | rfl | exact trivial⟩
          case measure => simp [intOf]; omega
    · have hltI : ¬ (i : Int) < s.length := by omega
      have HE := Lib.hid (show kd s = (!decide (a.toNat = 32) && decide (s.length ≤ 60)) by rw [hK.out, kdA_end (by omega)])
      clear hK
      by_cases h1 : (a.toNat : Int) = 32
      · have H1 := Lib.hid h1
        rw [h1]
        go_wp2
        go_ret
        exact ⟨eb_ret (by rw [HE.out, decide_eq_true (show a.toNat = 32 by have := H1.out; omega)]; rfl), KY.out⟩
      · have H1 := Lib.hid h1
        go_wp2
        go_ret
        refine ⟨eb_ret ?_, KY.out⟩
        rw [HE.out, decide_eq_false (show ¬ a.toNat = 32 by have := H1.out; omega), Bool.not_false, Bool.true_and]
        rw [show ((a.toNat : Int) != 32) = true from bne_iff_ne.2 H1.out, Bool.true_and]
        exact decide_eq_decide.2 (by omega)
end Go.Proofs.YtjlpkgipdkjfhaaGreatDoor.Bk.Pt
