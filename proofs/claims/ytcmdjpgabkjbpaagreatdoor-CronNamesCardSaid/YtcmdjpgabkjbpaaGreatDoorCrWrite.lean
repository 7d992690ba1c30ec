/- Contracts of package cron: a schedule's text. -/
import Derived.Test.YtcmdjpgabkjbpaaGreatDoorCrMay
import Derived.Test.YtcmdjpgabkjbpaaGreatDoorCrRefC
set_option linter.unusedVariables false
namespace Go.Proofs.YtcmdjpgabkjbpaaGreatDoor
open Go.ChangeShapes Go.WideShapes Go.ChangeAt Go.RowKit
open Crn
theorem itoa_small (n : Int) (h0 : 0 ≤ n) (h1 : n < 100) (w : World) : Calls Tryz.prog 54 #[.int .i64 n] w fun e w' => e = .returned (.string ⟨(Lib.itoa n).toArray⟩) ∧ w = w' := by
  obtain ⟨k, rfl⟩ : ∃ k : Nat, n = k := ⟨n.toNat, by omega⟩
  refine (Tryz.strconv_Itoa_small k (by omega) w).mono ?_
  rintro e w' ⟨rfl, rfl⟩
  refine ⟨?_, rfl⟩
  unfold Lib.itoa
  rw [if_neg (by omega)]; simp
theorem dec_le (n : Nat) (h : n < 100) : (Lib.decDigits n).length ≤ 2 := by
  by_cases h10 : n < 10
  · rw [Lib.decDigits_one h10]; simp
  · rw [Lib.decDigits, dif_neg h10, List.length_append, Lib.decDigits_one (by omega)]; simp
theorem itoa_len (n : Int) (h0 : 0 ≤ n) (h1 : n < 100) : (Lib.itoa n).length ≤ 2 := by
  unfold Lib.itoa
  rw [if_neg (by omega)]
  exact dec_le _ (by omega)
theorem join_len (k : Nat) (c : UInt8) : ∀ (xs : List (List UInt8)), (∀ x ∈ xs, x.length ≤ k) → (Lib.join xs [c]).length ≤ (k + 1) * xs.length
  | [], _ => by simp [Lib.join]
  | [x], h => by have := h x (by simp); simp [Lib.join]; omega
  | x :: y :: r, h => by
    have h1 := h x (by simp)
    have h2 := join_len k c (y :: r) (fun z hz => h z (by simp [hz]))
    have e : Lib.join (x :: y :: r) [c] = x ++ [c] ++ Lib.join (y :: r) [c] := by simp [Lib.join, List.intercalate]
    rw [e]
    have e2 : (k + 1) * (x :: y :: r).length = (k + 1) * (y :: r).length + (k + 1) := Nat.mul_succ _ _
    rw [e2]
    simp only [List.length_append, List.length_singleton]
    omega
/-- a slice of texts that has grown, joined -/
theorem join_any (B : Nat) (v : Value) (xs : List (List UInt8)) (c : UInt8) (w : World) (h : OutS B v xs w) (hl : (Lib.join xs [c]).length ≤ 1000000) (hn : xs.length ≤ 1000000) : Calls Tryz.prog 35 #[v, .string ⟨[c].toArray⟩] w fun e w' => e = .returned (.string ⟨(Lib.join xs [c]).toArray⟩) ∧ Kept w w' := by
  by_cases h0 : xs.length = 0
  · obtain ⟨ao, cap, rfl⟩ := h.slice
    obtain rfl : xs = [] := List.length_eq_zero_iff.1 h0
    refine (Tryz.strings_Join_none ao cap ⟨[c].toArray⟩ w).mono ?_
    rintro e w' ⟨rfl, rfl⟩
    exact ⟨rfl, Kept.refl _⟩
  · obtain ⟨g, cap, rfl, hc⟩ := h.at (k := 0) (by omega)
    have hb := lt_cell (hc 0 _ (List.getElem?_eq_getElem (by omega)))
    have hcap : xs.length ≤ cap := by
      rcases h.2 with ⟨h1, _⟩ | ⟨g', c', cur, h1, _, _, h2, _⟩
      · cases h1
      · cases h1; exact h2
    have hm : (xs.map fun p => (⟨p.toArray⟩ : ByteArray)).map (·.data.toList) = xs := by
      rw [List.map_map]; conv => rhs; rw [← List.map_id xs]
      apply List.map_congr_left; intro b _; rfl
    have J := Tryz.strings_Join g 0 cap (xs.map fun p => (⟨p.toArray⟩ : ByteArray)) ⟨[c].toArray⟩ w (fun j x hj => by
      rw [List.getElem?_map] at hj
      cases hx : xs[j]? with
      | none => rw [hx] at hj; cases hj
      | some p => rw [hx] at hj; cases hj; rw [Nat.zero_add]; exact hc j p hx) hb (by simp; omega) (by simpa using hcap) (by rw [hm]; show (Lib.join xs [c]).length ≤ _; omega)
    rw [hm, List.length_map] at J
    refine J.mono ?_
    rintro e w' ⟨rfl, hb⟩
    exact ⟨rfl, Kept.of_below hb⟩
set_option maxRecDepth 100000 in
set_option maxHeartbeats 2000000 in
theorem ptext_any (v : Value) (l : List Int) (s : Bool) (w : World) (hv : Rs w v l) (hr : ∀ x ∈ l, 0 ≤ x ∧ x < 100) (hl : l.length ≤ 1000) : Calls Tryz.prog 34 #[v, .bool s] w fun e w' => e = .returned (.string ⟨(ptxt l s).toArray⟩) ∧ Kept w w' := by
  obtain ⟨i0, hi, hz0, hz1, hz2⟩ := info_parts (show (Tryz.prog.info? 9).map (fun i => (i.zero, i.size, i.bytes)) = some (some (.string ⟨#[]⟩), 1, 16) by kernel_rfl)
  obtain ⟨ad, c, rfl⟩ := hv.slice
  have HV := Lib.hid hv; clear hv
  cases s with
  | true =>
    go_enter Tryz.func34, Tryz.ntmps34
    go_wp2
    go_ret
    exact ⟨rfl, Kept.refl _⟩
  | false =>
    have HP := Lib.hid (show ptxt l false = Lib.join (l.map Lib.itoa) [44] from rfl)
    go_enter Tryz.func34, Tryz.ntmps34
    go_wp2_with fail
    go_loopw [5, 11] (fun a i y => ∃ k : Nat, k ≤ l.length ∧ i = .int .i64 k ∧ OutSIn w.heap.size w ((l.take k).map Lib.itoa) a y) (fun _ i _ => l.length - (intOf i).toNat)
    case atStart => exact ⟨0, Nat.zero_le _, rfl, none, 0, rfl, World.ownsRow_nil _ _ _ _, Kept.refl _⟩
    case round =>
      obtain ⟨k, hk, rfl, ao, cap, rfl, hown, hkp⟩ := hrel
      have Own := Lib.hid hown; have KP := Lib.hid hkp
      by_cases hlt : k < l.length
      · obtain ⟨b, o, c2, hs, hb, hcell⟩ := (HV.out.kept hkp).at hlt
        simp only [Value.slice.injEq] at hs
        obtain ⟨rfl, _, rfl⟩ := hs
        obtain ⟨n, hn⟩ : ∃ n, l[k]? = some n := ⟨_, List.getElem?_eq_getElem hlt⟩
        have ck := hcell k n hn
        obtain ⟨n0, n1⟩ := hr n (List.mem_of_getElem? hn)
        have HT := Lib.hid (show (l.take (k + 1)).map Lib.itoa = (l.take k).map Lib.itoa ++ [Lib.itoa n] by rw [List.take_add_one, hn]; simp)
        have hdl : ((l.take k).map Lib.itoa).length ≤ l.length := by simp; omega
        generalize (l.take k).map Lib.itoa = done at *
        clear hcell hn hown hkp
        go_wp2_with fail
        refine (itoa_small n n0 n1 _).mono ?_
        rintro e w6 ⟨rfl, rfl⟩
        go_wp2_with (at_builtin; refine wpList_append_own _ rfl _ _ 51 rfl w.heap.size 9 i0 (.string ⟨#[]⟩) 1 16 Tryz.underlying51 hi hz0 hz1 hz2 rfl (by decide) _ _ _ rfl (Own.out.alloc _) ⟨wr.heap.size, 0, none⟩ 1 1 [.string ⟨(Lib.itoa n).toArray⟩] rfl rfl (cell_one_new _ _ _) (fun x hx => by simp at hx; subst hx; rfl) (by unfold maxLen; omega) (by omega) (by have := KP.out.size; simp; omega) ?_; intro v' w7 hown' hgrow hnil)
        have HA := outSIn_app (Nat.le_refl _) Own.out KP.out hgrow hown'
        go_roundw
        case rel => exact ⟨k + 1, hlt, by go_num, by rw [HT.out]; exact HA⟩
        case measure => simp [intOf]; omega
      · have HE := Lib.hid (show (l.take k).map Lib.itoa = l.map Lib.itoa by rw [List.take_of_length_le (by omega)])
        rw [HE.out] at Own
        have hj := join_len 2 44 (l.map Lib.itoa) (fun x hx => by obtain ⟨m, hm, rfl⟩ := List.mem_map.1 hx; have := hr m hm; exact itoa_len m this.1 this.2)
        rw [List.length_map] at hj
        have hkk : k = l.length := by omega
        subst hkk
        rw [List.take_length] at *
        have hml : (l.map Lib.itoa).length ≤ 1000 := by rw [List.length_map]; exact hl
        generalize l.map Lib.itoa = T at *
        clear hown hkp
        go_wp2_with fail
        refine (join_any _ _ T 44 _ Own.out (by omega) (by omega)).mono ?_
        rintro e w2 ⟨rfl, k2⟩
        go_wp2
        go_ret
        rw [HP.out]
        exact ⟨rfl, KP.out.trans k2⟩
theorem rises_mem : ∀ {l : List Int} {m top : Int}, rises m top l = true → ∀ x ∈ l, m ≤ x ∧ x ≤ top
  | [], _, _, _, _, h => by simp at h
  | a :: r, m, top, h, x, hx => by
    rw [rises, Bool.and_eq_true, decide_eq_true_eq] at h
    rcases List.mem_cons.1 hx with rfl | hx
    · exact h.1
    · have := rises_mem h.2 x hx; omega
theorem rises_len : ∀ {l : List Int} {m top : Int}, rises m top l = true → (l.length : Int) ≤ max 0 (top + 1 - m)
  | [], _, _, _ => by simp; omega
  | a :: r, m, top, h => by
    rw [rises, Bool.and_eq_true, decide_eq_true_eq] at h
    have := rises_len h.2
    simp only [List.length_cons]; omega
theorem mayF_bd {f : Nat} {l : List Int} {s : Bool} (h : mayF f l s = true) : (∀ x ∈ l, lo f ≤ x ∧ x ≤ Crn.hi f) ∧ l.length ≤ 60 ∧ l ≠ [] := by
  unfold mayF at h
  simp only [Bool.and_eq_true] at h
  have h1 := rises_mem h.1.2
  have h2 := rises_len h.1.2
  have := lo_bd f; have := hi_bd f
  exact ⟨h1, by omega, by have := h.1.1; intro e; subst e; simp at this⟩
theorem mayC_at {c : CR} (h : mayC c = true) (k : Nat) (hk : k < 5) : mayF k (c.L k) (c.st k) = true := by
  unfold mayC at h
  simp only [Bool.and_eq_true] at h
  obtain ⟨⟨⟨⟨h0, h1⟩, h2⟩, h3⟩, h4⟩ := h
  rcases (show k = 0 ∨ k = 1 ∨ k = 2 ∨ k = 3 ∨ k = 4 by omega) with rfl | rfl | rfl | rfl | rfl <;> assumption
theorem ptxt_len {l : List Int} {s : Bool} (hr : ∀ x ∈ l, 0 ≤ x ∧ x < 100) (hl : l.length ≤ 60) : (ptxt l s).length ≤ 180 := by
  unfold ptxt
  split
  · simp
  · have := join_len 2 44 (l.map Lib.itoa) (fun x hx => by obtain ⟨m, hm, rfl⟩ := List.mem_map.1 hx; have := hr m hm; exact itoa_len m this.1 this.2)
    rw [List.length_map] at this; omega
theorem index_L (W : World) (sl : Nat → Value) (k : Nat) (hk : k < 5) : (Instr.index 24 (.agg #[sl 0, sl 1, sl 2, sl 3, sl 4]) (.int .i64 (k : Int))).run Tryz.prog W = .ok (sl k) W := by
  rcases (show k = 0 ∨ k = 1 ∨ k = 2 ∨ k = 3 ∨ k = 4 by omega) with rfl | rfl | rfl | rfl | rfl <;> kernel_rfl
def prts (c : CR) (k : Nat) : List (List UInt8) := (List.range k).map fun i => ptxt (c.L i) (c.st i)
theorem prts_len (c : CR) (k : Nat) : (prts c k).length = k := by simp [prts]
theorem prts_succ (c : CR) (k : Nat) : prts c (k + 1) = prts c k ++ [ptxt (c.L k) (c.st k)] := by simp [prts, List.range_succ]
theorem prts_5 (c : CR) : Lib.join (prts c 5) [32] = wtxt c := rfl
def WritePost (c : CR) (w : World) (e : Ending) (w' : World) : Prop :=
  (mayC c = true → e = .returned (.tuple #[.string ⟨(wtxt c).toArray⟩, .int .i64 0])) ∧ (mayC c = false → e = .returned (.tuple #[.string ⟨#[]⟩, .int .i64 1])) ∧ Kept w w'
set_option maxRecDepth 100000 in
set_option maxHeartbeats 2000000 in
theorem cwrite_any (c : CR) (sl : Nat → Value) (w : World) (hc : Cr w sl c.L) : Calls Tryz.prog 15 #[crV sl c.st] w (WritePost c w) := by
  obtain ⟨i0, hi, hz0, hz1, hz2⟩ := info_parts (show (Tryz.prog.info? 9).map (fun i => (i.zero, i.size, i.bytes)) = some (some (.string ⟨#[]⟩), 1, 16) by kernel_rfl)
  have k0 := (Kept.refl w).alloc (.cells (cr10 sl c.st) 27)
  have B0 := Lib.hid (Cb.new sl c.st w)
  have C0 := Lib.hid (hc.kept k0)
  clear hc
  go_enter Tryz.func15, Tryz.ntmps15
  go_upto_region 1 with (fail)
  generalize w.alloc (.cells (cr10 sl c.st) 27) = x at *
  go_wp2_with (refine wpList_load_row rfl 27 _ rfl w.heap.size rfl 27 _ (0, 0) _ B0.out Tryz.underlying27 rfl (by kernel_rfl) ?_)
  refine (cmay_any c sl _ C0.out).mono ?_
  rintro e W ⟨rfl, k1⟩
  have B1 := Lib.hid (B0.out.kept k1); have C1 := Lib.hid (C0.out.kept k1); have K1 := Lib.hid (k0.trans k1)
  clear k0 k1 B0 C0
  cases hm : mayC c with
  | false =>
    have HM := Lib.hid hm; clear hm
    go_wp2
    go_ret2
    exact ⟨fun h => by rw [HM.out] at h; (first | cases h), fun _ => rfl, K1.out⟩
  | true =>
    have HM := Lib.hid hm; clear hm
    have e0 := cell_of (j := 0) B1.out rfl
    have e1 := cell_of (j := 1) B1.out rfl
    have e2 := cell_of (j := 2) B1.out rfl
    have e3 := cell_of (j := 3) B1.out rfl
    have e4 := cell_of (j := 4) B1.out rfl
    go_wp2_with fail
    go_loopw [4, 12] (fun a i y => ∃ k : Nat, k ≤ 5 ∧ i = .int .i64 k ∧ OutSIn W.heap.size W (prts c k) a y) (fun _ i _ => 5 - (intOf i).toNat)
    case atStart => exact ⟨0, by omega, rfl, none, 0, rfl, World.ownsRow_nil _ _ _ _, Kept.refl _⟩
    case round =>
      obtain ⟨k, hk, rfl, ao, cap, rfl, hown, hkp⟩ := hrel
      have Own := Lib.hid hown; have KP := Lib.hid hkp
      by_cases hlt : k < 5
      · have hix := fun W' => index_L W' sl k hlt
        have hck := (C1.out.kept hkp) k hlt
        have d2 := cell_of (B1.out.kept hkp) (cr_L sl c.st k hlt).2
        obtain ⟨b1, b2, b3⟩ := mayF_bd (mayC_at HM.out k hlt)
        have hlk := lo_bd k; have hhk := hi_bd k
        have hr : ∀ x ∈ c.L k, 0 ≤ x ∧ x < 100 := fun x hx => by have := b1 x hx; omega
        have HT := Lib.hid (prts_succ c k)
        have hdl : (prts c k).length ≤ 5 := by rw [prts_len]; omega
        generalize prts c k = done at *
        have HC := Lib.hid (ptext_any (sl k) (c.L k) (c.st k) wr hck hr (by omega))
        clear b1 b2 b3 hck hr hown hkp
        generalize c.st k = s at *
        generalize ptxt (c.L k) s = T at *
        go_wp2_with fail
        refine HC.out.mono ?_
        rintro e w6 ⟨rfl, k6⟩
        go_wp2_with (at_builtin; refine wpList_append_own _ rfl _ _ 51 rfl W.heap.size 9 i0 (.string ⟨#[]⟩) 1 16 Tryz.underlying51 hi hz0 hz1 hz2 rfl (by decide) _ _ _ rfl ((Own.out.kept' k6).alloc _) ⟨w6.heap.size, 0, none⟩ 1 1 [.string ⟨T.toArray⟩] rfl rfl (cell_one_new _ _ _) (fun x hx => by simp at hx; subst hx; rfl) (by unfold maxLen; omega) (by omega) (by have := KP.out.size; have := k6.size; simp; omega) ?_; intro v' w7 hown' hgrow hnil)
        have HA := outSIn_app (Nat.le_refl _) (Own.out.kept' k6) (KP.out.trans k6) hgrow hown'
        go_roundw
        case rel => exact ⟨k + 1, hlt, by go_num, by rw [HT.out]; exact HA⟩
        case measure => simp [intOf]; omega
      · have hkk : k = 5 := by omega
        subst hkk
        have hj : (Lib.join (prts c 5) [32]).length ≤ 181 * 5 := by
          have := join_len 180 32 (prts c 5) (fun x hx => by
            obtain ⟨j, hj, rfl⟩ := List.mem_map.1 hx
            rw [List.mem_range] at hj
            obtain ⟨b1, b2, _⟩ := mayF_bd (mayC_at HM.out j hj)
            have := lo_bd j; have := hi_bd j
            exact ptxt_len (fun x hx => by have := b1 x hx; omega) b2)
          rw [prts_len] at this; exact this
        have hpl : (prts c 5).length ≤ 5 := by rw [prts_len]; omega
        have HE := Lib.hid (prts_5 c)
        generalize prts c 5 = T at *
        clear hown hkp
        go_wp2_with fail
        refine (join_any _ _ T 32 _ Own.out (by omega) (by omega)).mono ?_
        rintro e w2 ⟨rfl, k2⟩
        go_wp2
        go_ret2
        rw [HE.out]
        refine ⟨fun _ => rfl, ?_, K1.out.trans (KP.out.trans k2)⟩
        intro h; rw [HM.out] at h; exact absurd h (by decide)
end Go.Proofs.YtcmdjpgabkjbpaaGreatDoor
