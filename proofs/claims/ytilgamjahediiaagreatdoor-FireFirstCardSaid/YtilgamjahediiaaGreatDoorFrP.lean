/- Several texts of this seat, one behind the other. -/
import Derived.Test.YtilgamjahediiaaGreatDoorLcG
import Derived.Test.YtilgamjahediiaaGreatDoorCrD
/- Plain mathematics of layer fire: the words that both the program's and the document's answers are told in. -/
namespace Go.Proofs.YtilgamjahediiaaGreatDoor
open Go.ChangeShapes Go.WideShapes Go.ChangeAt Go.RowKit
open Civ Zn Lc Crn
abbrev six0 : Six := ⟨0, 0, 0, 0, 0, 0⟩
open Classical in
/-- a second's day and time, or none -/
noncomputable def seS (t : Int) : Six := if inCal t then ⟨yr (t / 86400), mo (t / 86400), dy (t / 86400), t % 86400 / 3600, t % 3600 / 60, t % 60⟩ else six0
open Classical in
noncomputable def seE (t : Int) : Int := if inCal t then 0 else 1
theorem se_any (t : Int) (w : World) (h1 : -9223372036854775808 ≤ t) (h2 : t ≤ 9223372036854775807) : Calls Tryz.prog 28 #[.int .i64 t] w fun e w' => e = .returned (.tuple #[sixV (seS t), .int .i64 (seE t)]) ∧ Kept w w' := by
  unfold seS seE
  by_cases h : inCal t
  · rw [if_pos h, if_pos h]; exact (at_yes t w h).mono fun e w' ⟨_, he, hk⟩ => ⟨he, hk⟩
  · rw [if_neg h, if_neg h]; exact at_not t w h1 h2 h
/-- how far the clock is put forward, and the first day and time that is skipped -/
def gOk (z : Zo) (t : Int) : Bool := mayZ z && decide (1 ≤ t ∧ t ≤ 253402214400)
def gYes (z : Zo) (t : Int) : Prop := gOk z t = true ∧ oA z (t - 1) < oA z t
open Classical in
noncomputable def gN (z : Zo) (t : Int) : Int := if gYes z t then oA z t - oA z (t - 1) else 0
open Classical in
noncomputable def gC (z : Zo) (t : Int) : Six := if gYes z t then seS (t + oA z (t - 1)) else six0
theorem oA_bd (z : Zo) (t : Int) : -89999 ≤ oA z t ∧ oA z t ≤ 93599 := by
  unfold oA
  by_cases h : oOk z t = true
  · rw [if_pos h]; unfold oOk at h; rw [Bool.and_eq_true] at h; exact offP_bd h.1 t
  · rw [if_neg h]; omega
theorem gN_bd (z : Zo) (t : Int) : 0 ≤ gN z t ∧ gN z t ≤ 183598 := by
  unfold gN
  have h1 := oA_bd z t; have h2 := oA_bd z (t - 1)
  split
  · rename_i h; have := h.2; omega
  · omega
/-- is a second the first one of its day and time there -/
noncomputable def fsP (z : Zo) (x : Six) (t : Int) : Bool := decide (9998 < x.y) || (decide (ofE z x = 0) && decide ((ofS z x)[0]? = some t))
/-- is a day and time of n seconds, from one on, one of a schedule -/
noncomputable def mtS (c : CR) (x : Six) : Bool := matchC c x.y x.m x.d x.h x.i x.s
noncomputable def skF (c : CR) (t : Int) : Nat → Int → Bool
  | 0, _ => false
  | n + 1, k => (decide (seE (t + k) = 0) && mtS c (seS (t + k))) || skF c t n (k + 1)
noncomputable def skP (c : CR) (t n : Int) : Bool := skF c t n.toNat 0
/-- does it fire -/
noncomputable def frP (z : Zo) (c : CR) (t : Int) : Bool :=
  mayZ z && mayC c && decide (86400 ≤ t ∧ t ≤ 253402214400) &&
    ((decide (atE z t = 0) && mtS c (atS z t) && fsP z (atS z t) t) || (decide (gN z t ≠ 0) && skP c (t + oA z (t - 1)) (gN z t)))
/-- the first one of n seconds, from one on -/
def nxF (f : Int → Bool) : Nat → Int → Option Int
  | 0, _ => none
  | n + 1, t => if f t = true then some t else nxF f n (t + 1)
noncomputable def nxP (z : Zo) (c : CR) (a b : Int) : Option Int := if a < 0 ∨ 3456000 < b - a then none else nxF (frP z c) (b - a).toNat (a + 1)
theorem six_sec (t : Int) (h : ¬ t % 60 = 0) : ¬ (seS t).s = 0 ∨ ¬ seE t = 0 := by
  unfold seS seE
  by_cases hc : inCal t
  · left; rw [if_pos hc]; exact h
  · right; rw [if_neg hc]; decide
theorem mt_sec {c : CR} {x : Six} (h : ¬ x.s = 0) : mtS c x = false := by
  unfold mtS matchC
  rw [decide_eq_false h]; simp
/-- only whole minutes count -/
theorem sk_skip {c : CR} {t k : Int} (h : ¬ (t + k) % 60 = 0) : (decide (seE (t + k) = 0) && mtS c (seS (t + k))) = false := by
  rcases six_sec (t + k) h with h1 | h1
  · rw [mt_sec h1]; simp
  · rw [decide_eq_false h1]; rfl
theorem nxF_some {f : Int → Bool} : ∀ {n : Nat} {t r : Int}, nxF f n t = some r → t ≤ r ∧ r < t + n ∧ f r = true ∧ ∀ u, t ≤ u → u < r → f u = false
  | 0, t, r, h => by simp [nxF] at h
  | n + 1, t, r, h => by
    rw [nxF] at h
    by_cases hf : f t = true
    · rw [if_pos hf] at h
      cases h
      exact ⟨Int.le_refl _, by omega, hf, fun u h1 h2 => by omega⟩
    · rw [if_neg hf] at h
      obtain ⟨h1, h2, h3, h4⟩ := nxF_some h
      refine ⟨by omega, by omega, h3, fun u u1 u2 => ?_⟩
      by_cases hu : u = t
      · subst hu; exact Bool.eq_false_iff.2 hf
      · exact h4 u (by omega) u2
theorem nxF_none {f : Int → Bool} : ∀ {n : Nat} {t : Int}, nxF f n t = none → ∀ u, t ≤ u → u < t + n → f u = false
  | 0, t, _, u, h1, h2 => by omega
  | n + 1, t, h, u, h1, h2 => by
    rw [nxF] at h
    by_cases hf : f t = true
    · rw [if_pos hf] at h; cases h
    · rw [if_neg hf] at h
      by_cases hu : u = t
      · subst hu; exact Bool.eq_false_iff.2 hf
      · exact nxF_none h u (by omega) (by omega)
/-- told by what it is: the first one -/
theorem nxF_of {f : Int → Bool} {r : Int} : ∀ {n : Nat} {t : Int}, t ≤ r → r < t + n → f r = true → (∀ u, t ≤ u → u < r → f u = false) → nxF f n t = some r
  | 0, t, h1, h2, _, _ => by omega
  | n + 1, t, h1, h2, h3, h4 => by
    rw [nxF]
    by_cases hf : f t = true
    · rw [if_pos hf]
      by_cases hr : r = t
      · rw [hr]
      · rw [h4 t (Int.le_refl _) (by omega)] at hf; cases hf
    · rw [if_neg hf]
      have hr : r ≠ t := fun e => hf (e ▸ h3)
      exact nxF_of (by omega) (by omega) h3 (fun u u1 u2 => h4 u (by omega) u2)
theorem nxF_not {f : Int → Bool} : ∀ {n : Nat} {t : Int}, (∀ u, t ≤ u → u < t + n → f u = false) → nxF f n t = none
  | 0, t, _ => rfl
  | n + 1, t, h => by
    rw [nxF, if_neg (by rw [h t (Int.le_refl _) (by omega)]; decide)]
    exact nxF_not (fun u u1 u2 => h u (by omega) (by omega))
end Go.Proofs.YtilgamjahediiaaGreatDoor
/- Plain mathematics of layer fire: what its laws without the document's answer ask. -/
set_option linter.unusedVariables false
namespace Go.Proofs.YtilgamjahediiaaGreatDoor
open Go.ChangeShapes Go.WideShapes Go.ChangeAt Go.RowKit
open Civ Zn Lc Crn
theorem frP_out {z : Zo} {c : CR} {t : Int} (h : frP z c t = true) : mayZ z = true ∧ mayC c = true ∧ 86400 ≤ t ∧ t ≤ 253402214400 := by
  unfold frP at h
  simp only [Bool.and_eq_true, decide_eq_true_eq] at h
  exact ⟨h.1.1.1, h.1.1.2, h.1.2.1, h.1.2.2⟩
theorem nxP_some {z : Zo} {c : CR} {a b r : Int} (h : nxP z c a b = some r) : (0 ≤ a ∧ b - a ≤ 3456000) ∧ a < r ∧ r ≤ b ∧ frP z c r = true ∧ ∀ u, a < u → u < r → frP z c u = false := by
  unfold nxP at h
  by_cases hb : a < 0 ∨ 3456000 < b - a
  · rw [if_pos hb] at h; cases h
  · rw [if_neg hb] at h
    obtain ⟨h1, h2, h3, h4⟩ := nxF_some h
    exact ⟨by omega, by omega, by omega, h3, fun u u1 u2 => h4 u (by omega) u2⟩
theorem nxP_none {z : Zo} {c : CR} {a b : Int} (ha : 0 ≤ a) (hb : b - a ≤ 3456000) (h : nxP z c a b = none) : ∀ u, a < u → u ≤ b → frP z c u = false := by
  unfold nxP at h
  rw [if_neg (by omega)] at h
  exact fun u u1 u2 => nxF_none h u (by omega) (by omega)
theorem nxP_from {z : Zo} {c : CR} {a b r u : Int} (h : nxP z c a b = some r) (h1 : a ≤ u) (h2 : u < r) : nxP z c u b = some r := by
  obtain ⟨⟨b1, b2⟩, b3, b4, b5, b6⟩ := nxP_some h
  unfold nxP
  rw [if_neg (by omega)]
  exact nxF_of (by omega) (by omega) b5 (fun v v1 v2 => b6 v (by omega) v2)
theorem nxP_from_none {z : Zo} {c : CR} {a b u : Int} (ha : 0 ≤ a) (hb : b - a ≤ 3456000) (h : nxP z c a b = none) (h1 : a ≤ u) : nxP z c u b = none := by
  have q := nxP_none ha hb h
  unfold nxP
  rw [if_neg (by omega)]
  exact nxF_not (fun v v1 v2 => q v (by omega) (by omega))
/-- of those of a day and time there just the first one fires, where the clock is not put forward -/
theorem fire_once {z : Zo} {c : CR} {x : Six} {i : Nat} {u : Int} (hc : CivOk z x) (hm : mayC c = true) (hu : (ofS z x)[i]? = some u) (hg : gN z u = 0) (h1 : 86400 ≤ u) (h2 : u ≤ 253402214400) : frP z c u = (decide (i = 0) && mtS c x) := by
  have hmem : u ∈ ofS z x := List.mem_of_getElem? hu
  obtain ⟨ha, hx⟩ := of_back hc hmem
  have he : atE z u = 0 := by unfold atE; rw [if_pos ha]
  have hof : ofE z x = 0 := by unfold ofE; rw [if_pos hc]
  have hS : ofS z x = ofL z (sixN x) := by unfold ofS; rw [if_pos hc]
  have hf : fsP z x u = decide (i = 0) := by
    unfold fsP
    rw [decide_eq_false (by have := hc.2.2.2.2; omega), hof]
    by_cases hi : i = 0
    · subst hi; rw [hu]; simp
    · have hl := ofL_len z (sixN x)
      rw [← hS] at hl
      have hlt := (List.getElem?_eq_some_iff.1 hu).1
      obtain rfl : i = 1 := by omega
      obtain ⟨a, h0⟩ : ∃ a, (ofS z x)[0]? = some a := ⟨_, List.getElem?_eq_getElem (by omega)⟩
      have hr := ofL_rise (hS ▸ h0) (hS ▸ hu)
      rw [h0]
      simp; omega
  unfold frP
  rw [hc.1, hm, decide_eq_true ⟨h1, h2⟩, he, hx, hf, hg]
  simp [Bool.and_comm]
theorem day_n (n : Int) (w : World) (h1 : -719162 ≤ n) (h2 : n ≤ 2932896) : Day n := by
  obtain ⟨y, m, d, hk, ho⟩ := day_of n w h1 h2
  obtain ⟨rfl, rfl, rfl⟩ := ymd_of hk ho
  exact ⟨hk, ho⟩
/-- a zone without summer time -/
theorem fr_plain {z : Zo} {c : CR} {t : Int} (w : World) (hz : mayZ z = true) (hh : z.has = false) (h1 : 31629600 - 93600 ≤ t) (h2 : t ≤ 253370671200 + 93600) (h3 : 31536000 ≤ t + z.off) (h4 : t + z.off < 253370764800) : frP z c t = (mayC c && mtS c (seS (t + z.off))) := by
  obtain ⟨o1, o2⟩ := may_off hz
  have ho : ∀ u, offP z u = z.off := fun u => by unfold offP offY; rw [hh]; rfl
  have hok : ∀ u, 0 ≤ u → u ≤ 253402300799 → oOk z u = true := fun u u1 u2 => by unfold oOk; rw [hz]; simpa [scB] using ⟨u1, u2⟩
  have hA : ∀ u, 0 ≤ u → u ≤ 253402300799 → oA z u = z.off := fun u u1 u2 => by unfold oA; rw [if_pos (hok u u1 u2), ho]
  have hat : AtOk z t := ⟨hok t (by omega) (by omega), by rw [ho]; unfold inCal; omega⟩
  have hin : inCal (t + z.off) := by unfold inCal; omega
  have hS : atS z t = seS (t + z.off) := by unfold atS seS; rw [if_pos hat, if_pos hin, ho]
  have hE : atE z t = 0 := by unfold atE; rw [if_pos hat]
  have hD := day_n ((t + z.off) / 86400) w (by omega) (by omega)
  obtain ⟨y0, y1, y2⟩ := of_year (t + z.off) w (by simp [scB]; omega)
  have hy : (atS z t).y = yr ((t + z.off) / 86400) := by rw [hS]; unfold seS; rw [if_pos hin]
  have hy8 : yr ((t + z.off) / 86400) ≤ 9998 := by
    have : ¬ yr ((t + z.off) / 86400) = 9999 := fun e => by
      have q := y0.2.1
      rw [e] at q
      have g : first 9999 1 = 2932532 := by decide +kernel
      rw [g] at q; omega
    omega
  obtain ⟨b1, b2⟩ := at_back hat (by rw [ho]; exact hD) (by rw [hy]; exact y1) (by rw [hy]; exact hy8)
  have hlen : (ofS z (atS z t)).length ≤ 1 := by
    unfold ofS
    split
    · unfold ofL offsL
      rw [if_neg (by rw [hh]; simp)]
      simp only [List.flatMap_cons, List.flatMap_nil, List.append_nil]
      exact pick_len z _ _
    · simp
  have hf : fsP z (atS z t) t = true := by
    have h0 : (ofS z (atS z t))[0]? = some t := by
      revert b2 hlen
      cases ofS z (atS z t) with
      | nil => intro b2; simp at b2
      | cons a r =>
        intro b2 hlen
        have : r = [] := List.length_eq_zero_iff.1 (by simpa using hlen)
        subst this
        simp at b2; simp [b2]
    unfold fsP
    rw [b1, decide_eq_true h0]; simp
  have hg : gN z t = 0 := by
    unfold gN
    rw [if_neg]
    intro q
    have := q.2
    rw [hA t (by omega) (by omega), hA (t - 1) (by omega) (by omega)] at this
    omega
  unfold frP
  rw [hz, hE, hf, hg, hS, decide_eq_true (by omega)]
  simp
def zU : Zo := ⟨[85, 84, 67], 0, false, [], 0, ⟨0, 0, 0, 0, 0⟩, ⟨0, 0, 0, 0, 0⟩⟩
theorem may_U : mayZ zU = true := by decide
theorem fire_shift {z : Zo} {c : CR} {t : Int} (w : World) (hz : mayZ z = true) (hh : z.has = false) (h1 : 31629600 ≤ t) (h2 : t ≤ 253370671200) : frP z c t = frP zU c (t + z.off) := by
  obtain ⟨o1, o2⟩ := may_off hz
  rw [fr_plain w hz hh (by omega) (by omega) (by omega) (by omega), fr_plain (z := zU) w may_U rfl (by omega) (by omega) (show 31536000 ≤ t + z.off + 0 by omega) (show t + z.off + 0 < 253370764800 by omega)]
  rw [show t + z.off + zU.off = t + z.off from Int.add_zero _]
theorem skF_at {c : CR} {t k0 : Int} (h : (decide (seE (t + k0) = 0) && mtS c (seS (t + k0))) = true) : ∀ (n : Nat) (k : Int), k ≤ k0 → k0 < k + n → skF c t n k = true
  | 0, k, h1, h2 => by omega
  | n + 1, k, h1, h2 => by
    rw [skF]
    by_cases hk : k = k0
    · subst hk; rw [h]; rfl
    · rw [skF_at h n (k + 1) (by omega) (by omega)]; simp
/-- what is skipped fires where the clock has been put forward -/
theorem fire_skipped {z : Zo} {c : CR} {a m : Int} (hz : mayZ z = true) (hm : mayC c = true) (h1 : 86400 ≤ a) (h2 : a ≤ 253402214400) (hn : ¬ gN z a = 0) (m0 : 0 ≤ m) (m1 : 60 * m < gN z a) (hs : (gC z a).s = 0) (hh : (gC z a).h + ((gC z a).i + m) / 60 ≤ 23)
    (hx : mtS c ⟨(gC z a).y, (gC z a).m, (gC z a).d, (gC z a).h + ((gC z a).i + m) / 60, ((gC z a).i + m) % 60, (gC z a).s⟩ = true) : frP z c a = true := by
  have hy : gYes z a := by
    by_cases q : gYes z a
    · exact q
    · exact absurd (by unfold gN; rw [if_neg q]) hn
  have hC : gC z a = seS (a + oA z (a - 1)) := by unfold gC; rw [if_pos hy]
  obtain ⟨o1, o2⟩ := oA_bd z (a - 1)
  obtain ⟨g1, g2⟩ := gN_bd z a
  rw [hC] at hs hh hx
  generalize hT : a + oA z (a - 1) = T at *
  have hin : inCal T := by
    by_cases q : inCal T
    · exact q
    · unfold seS at hx
      rw [if_neg q] at hx
      have hno : okB 0 0 0 = false := (okB_no 0 0 0).2 (by intro q; have := q.1; omega)
      unfold mtS matchC mayB at hx
      simp only [hno] at hx
      simp at hx
  unfold seS at hs hh hx
  rw [if_pos hin] at hs hh hx
  simp only at hs hh hx
  have hin2 : inCal (T + 60 * m) := by unfold inCal at hin ⊢; omega
  have hk : (decide (seE (T + 60 * m) = 0) && mtS c (seS (T + 60 * m))) = true := by
    unfold seE seS
    rw [if_pos hin2, if_pos hin2]
    rw [show (T + 60 * m) / 86400 = T / 86400 by omega, show (T + 60 * m) % 86400 / 3600 = T % 86400 / 3600 + (T % 3600 / 60 + m) / 60 by omega, show (T + 60 * m) % 3600 / 60 = (T % 3600 / 60 + m) % 60 by omega, show (T + 60 * m) % 60 = T % 60 by omega, hx]
    rfl
  have hsk : skP c T (gN z a) = true := by
    unfold skP
    exact skF_at hk _ _ (by omega) (by omega)
  unfold frP
  rw [hT, hsk, hz, hm, decide_eq_true ⟨h1, h2⟩]
  simp [hn]
end Go.Proofs.YtilgamjahediiaaGreatDoor
/- Plain mathematics of package fire: the times of a schedule, day by day; the search for the first second. -/
set_option linter.unusedVariables false
namespace Go.Proofs.YtilgamjahediiaaGreatDoor
open Go.ChangeShapes Go.WideShapes Go.ChangeAt Go.RowKit
open Civ Zn Lc Crn
/-- is a second's day and time one of a schedule -/
noncomputable def slot (c : CR) (n : Int) : Bool := decide (seE n = 0) && mtS c (seS n)
theorem skF_iff {c : CR} {t : Int} : ∀ (n : Nat) (k : Int), skF c t n k = true ↔ ∃ x, t + k ≤ x ∧ x < t + k + n ∧ slot c x = true
  | 0, k => by simp [skF]; intro x h1 h2; omega
  | n + 1, k => by
    rw [skF, Bool.or_eq_true, skF_iff n (k + 1)]
    constructor
    · rintro (h | ⟨x, h1, h2, h3⟩)
      · exact ⟨t + k, Int.le_refl _, by omega, h⟩
      · exact ⟨x, by omega, by omega, h3⟩
    · rintro ⟨x, h1, h2, h3⟩
      by_cases hx : x = t + k
      · exact Or.inl (hx ▸ h3)
      · exact Or.inr ⟨x, by omega, by omega, h3⟩
theorem skP_iff {c : CR} {t n : Int} : skP c t n = true ↔ ∃ x, t ≤ x ∧ x ≤ t + n - 1 ∧ slot c x = true := by
  unfold skP
  rw [skF_iff]
  constructor
  · rintro ⟨x, h1, h2, h3⟩; exact ⟨x, by omega, by omega, h3⟩
  · rintro ⟨x, h1, h2, h3⟩; exact ⟨x, by omega, by omega, h3⟩
theorem slot_iff {c : CR} {n : Int} (w : World) : slot c n = true ↔ inCal n ∧ n % 60 = 0 ∧ n % 3600 / 60 ∈ c.L 0 ∧ n % 86400 / 3600 ∈ c.L 1 ∧ dayC c (yr (n / 86400)) (mo (n / 86400)) (dy (n / 86400)) = true := by
  unfold slot seE seS
  by_cases h : inCal n
  · have hD := day_n (n / 86400) w (by unfold inCal at h; omega) (by unfold inCal at h; omega)
    have hk := (okB_iff _ _ _).2 hD.1
    have ht := tm_at n
    rw [if_pos h, if_pos h]
    unfold mtS matchC mayB hasB
    simp only [hk, ht, decide_true, Bool.true_and, Bool.and_eq_true, decide_eq_true_eq, List.contains_iff_mem]
    constructor
    · rintro ⟨⟨⟨h1, h2⟩, h3⟩, h4⟩; exact ⟨h, h1, h2, h3, h4⟩
    · rintro ⟨_, h1, h2, h3, h4⟩; exact ⟨⟨⟨h1, h2⟩, h3⟩, h4⟩
  · rw [if_neg h]
    constructor
    · intro q; simp at q
    · intro q; exact absurd q.1 h
theorem slot_cal {c : CR} {n : Int} (w : World) (h : slot c n = true) : inCal n := ((slot_iff w).1 h).1
/-! rising lists -/
theorem rises_bd {a b : Int} : ∀ {l : List Int} {a : Int}, rises a b l = true → ∀ v ∈ l, a ≤ v ∧ v ≤ b
  | [], _, _, v, hv => by cases hv
  | n :: r, a, h, v, hv => by
    rw [rises, Bool.and_eq_true, decide_eq_true_eq] at h
    rcases List.mem_cons.1 hv with rfl | hv
    · exact h.1
    · have := rises_bd (b := b) (a := n) h.2 v hv; omega
theorem rises_next {b : Int} : ∀ {l : List Int} {a : Int}, rises a b l = true → ∀ (i : Nat) (x : Int), l[i]? = some x → ∀ v ∈ l, x < v → ∃ y, l[i + 1]? = some y ∧ y ≤ v
  | [], _, _, i, x, hx, v, hv, _ => by cases hv
  | n :: r, a, h, i, x, hx, v, hv, hlt => by
    rw [rises, Bool.and_eq_true, decide_eq_true_eq] at h
    cases i with
    | zero =>
      simp only [List.getElem?_cons_zero, Option.some.injEq] at hx
      subst hx
      rcases List.mem_cons.1 hv with rfl | hv
      · omega
      · cases r with
        | nil => cases hv
        | cons y r' =>
          refine ⟨y, rfl, ?_⟩
          have h2 := h.2
          rw [rises, Bool.and_eq_true, decide_eq_true_eq] at h2
          rcases List.mem_cons.1 hv with rfl | hv
          · omega
          · have := rises_bd (a := y) h2.2 v hv; omega
    | succ i =>
      simp only [List.getElem?_cons_succ] at hx ⊢
      rcases List.mem_cons.1 hv with rfl | hv
      · have := rises_bd (a := v) h.2 x (List.mem_of_getElem? hx); omega
      · exact rises_next h.2 i x hx v hv hlt
theorem rises_lt {b : Int} : ∀ {l : List Int} {a : Int}, rises a b l = true → ∀ (i : Nat) {x y : Int}, l[i]? = some x → l[i + 1]? = some y → x < y
  | [], _, _, i, x, y, hx, _ => by simp at hx
  | n :: r, a, h, i, x, y, hx, hy => by
    rw [rises, Bool.and_eq_true, decide_eq_true_eq] at h
    cases i with
    | zero =>
      simp only [List.getElem?_cons_zero, Option.some.injEq] at hx
      simp only [List.getElem?_cons_succ] at hy
      have := rises_bd (a := n) h.2 y (List.mem_of_getElem? hy)
      omega
    | succ i =>
      simp only [List.getElem?_cons_succ] at hx hy
      exact rises_lt h.2 i hx hy
theorem rises_first {a b x : Int} {l : List Int} (h : rises a b l = true) (hx : l[0]? = some x) : ∀ v ∈ l, x ≤ v := fun v hv => by
  cases l with
  | nil => cases hv
  | cons n r =>
    simp only [List.getElem?_cons_zero, Option.some.injEq] at hx
    subst hx
    rw [rises, Bool.and_eq_true, decide_eq_true_eq] at h
    rcases List.mem_cons.1 hv with rfl | hv
    · omega
    · have := rises_bd (a := n) h.2 v hv; omega
/-- the number at a place, or one above all -/
def nx (l : List Int) (top : Int) (i : Nat) : Int := (l[i]?).getD top
theorem nx_in {l : List Int} {top : Int} {i : Nat} (h : i < l.length) : l[i]? = some (nx l top i) := by
  unfold nx; rw [List.getElem?_eq_getElem h]; rfl
theorem nx_out {l : List Int} {top : Int} {i : Nat} (h : l.length ≤ i) : nx l top i = top := by
  unfold nx; rw [List.getElem?_eq_none h]; rfl
theorem may_L {c : CR} (h : mayC c = true) : rises 0 59 (c.L 0) = true ∧ rises 0 23 (c.L 1) = true ∧ c.L 0 ≠ [] ∧ c.L 1 ≠ [] := by
  unfold mayC mayF at h
  simp only [Bool.and_eq_true] at h
  obtain ⟨⟨⟨⟨⟨⟨a1, a2⟩, -⟩, ⟨b1, b2⟩, -⟩, -⟩, -⟩, -⟩ := h
  exact ⟨a2, b2, (by intro q; rw [q] at a1; cases a1), (by intro q; rw [q] at b1; cases b1)⟩
theorem nx_bd {l : List Int} {a b top : Int} {i : Nat} (h : rises a b l = true) (hi : i < l.length) : a ≤ nx l top i ∧ nx l top i ≤ b :=
  rises_bd (a := a) h _ (List.mem_of_getElem? (nx_in hi))
theorem nx_0 {l : List Int} {a b top : Int} (h : rises a b l = true) (hn : l ≠ []) {v : Int} (hv : v ∈ l) : nx l top 0 ≤ v :=
  rises_first h (nx_in (by cases l with | nil => exact absurd rfl hn | cons => simp)) v hv
theorem nx_s {l : List Int} {a b top : Int} {i : Nat} (h : rises a b l = true) (hi : i < l.length) {v : Int} (hv : v ∈ l) (hlt : nx l top i < v) : nx l top (i + 1) ≤ v := by
  obtain ⟨y, hy, hle⟩ := rises_next h i _ (nx_in hi) v hv hlt
  unfold nx; rw [hy]; exact hle
theorem nx_lt {l : List Int} {a b top : Int} {i : Nat} (h : rises a b l = true) (hi : i + 1 < l.length) : nx l top i < nx l top (i + 1) := by
  by_cases q : nx l top i < nx l top (i + 1)
  · exact q
  · exfalso
    have hx := nx_in (top := top) (show i < l.length by omega)
    have hy := nx_in (top := top) hi
    exact q (rises_lt h i hx hy)
theorem nx_top {l : List Int} {a b top : Int} (h : rises a b l = true) (hb : b ≤ top) (i : Nat) : nx l top i ≤ top := by
  by_cases hi : i < l.length
  · have := (nx_bd (top := top) h hi).2; omega
  · rw [nx_out (by omega)]; exact Int.le_refl _
/-! what is still to come of a day, of an hour -/
theorem day_0 {c : CR} {d n : Int} (w : World) (hm : mayC c = true) (h : slot c n = true) (hn : 86400 * d ≤ n) : 86400 * d + 3600 * nx (c.L 1) 24 0 ≤ n := by
  obtain ⟨h0, h1, e0, e1⟩ := may_L hm
  obtain ⟨q0, q1, q2, q3, q4⟩ := (slot_iff w).1 h
  have := nx_0 (top := 24) h1 e1 q3
  have hlt : 0 < (c.L 1).length := by cases hl : c.L 1 with | nil => exact absurd hl e1 | cons => simp
  have := nx_bd (top := 24) h1 hlt
  by_cases hd : n < 86400 * d + 86400 <;> omega
theorem day_s {c : CR} {d n : Int} {i : Nat} (w : World) (hm : mayC c = true) (h : slot c n = true) (hi : i < (c.L 1).length) (hn : 86400 * d + 3600 * (nx (c.L 1) 24 i + 1) ≤ n) : 86400 * d + 3600 * nx (c.L 1) 24 (i + 1) ≤ n := by
  obtain ⟨h0, h1, e0, e1⟩ := may_L hm
  obtain ⟨q0, q1, q2, q3, q4⟩ := (slot_iff w).1 h
  have b := nx_bd (top := 24) h1 hi
  have t := nx_top (top := 24) h1 (by omega) (i + 1)
  by_cases hd : n < 86400 * d + 86400
  · have := nx_s (top := 24) h1 hi q3 (by omega)
    omega
  · omega
theorem hour_0 {c : CR} {d g n : Int} (w : World) (hm : mayC c = true) (h : slot c n = true) (hn : 86400 * d + 3600 * g ≤ n) : 86400 * d + 3600 * g + 60 * nx (c.L 0) 60 0 ≤ n := by
  obtain ⟨h0, h1, e0, e1⟩ := may_L hm
  obtain ⟨q0, q1, q2, q3, q4⟩ := (slot_iff w).1 h
  have := nx_0 (top := 60) h0 e0 q2
  have hlt : 0 < (c.L 0).length := by cases hl : c.L 0 with | nil => exact absurd hl e0 | cons => simp
  have := nx_bd (top := 60) h0 hlt
  by_cases hd : n < 86400 * d + 3600 * g + 3600 <;> omega
theorem hour_s {c : CR} {d g n : Int} {j : Nat} (w : World) (hm : mayC c = true) (h : slot c n = true) (hj : j < (c.L 0).length) (hn : 86400 * d + 3600 * g + 60 * nx (c.L 0) 60 j < n) : 86400 * d + 3600 * g + 60 * nx (c.L 0) 60 (j + 1) ≤ n := by
  obtain ⟨h0, h1, e0, e1⟩ := may_L hm
  obtain ⟨q0, q1, q2, q3, q4⟩ := (slot_iff w).1 h
  have b := nx_bd (top := 60) h0 hj
  have t := nx_top (top := 60) h0 (by omega) (j + 1)
  by_cases hd : n < 86400 * d + 3600 * g + 3600
  · have := nx_s (top := 60) h0 hj q2 (by omega)
    omega
  · omega
theorem slot_of {c : CR} {d g m : Int} (w : World) (hc : inCal (86400 * d)) (g1 : g ∈ c.L 1) (m1 : m ∈ c.L 0) (g2 : 0 ≤ g) (g3 : g ≤ 23) (m2 : 0 ≤ m) (m3 : m ≤ 59) (hd : dayC c (yr d) (mo d) (dy d) = true) : slot c (86400 * d + 3600 * g + 60 * m) = true := by
  refine (slot_iff w).2 ⟨by unfold inCal at hc ⊢; omega, by omega, ?_, ?_, ?_⟩
  · rw [show (86400 * d + 3600 * g + 60 * m) % 3600 / 60 = m by omega]; exact m1
  · rw [show (86400 * d + 3600 * g + 60 * m) % 86400 / 3600 = g by omega]; exact g1
  · rw [show (86400 * d + 3600 * g + 60 * m) / 86400 = d by omega]; exact hd
theorem slot_no {c : CR} {d n : Int} (w : World) (hd : dayC c (yr d) (mo d) (dy d) = false) (h : slot c n = true) (hn : 86400 * d ≤ n) : 86400 * (d + 1) ≤ n := by
  obtain ⟨q0, q1, q2, q3, q4⟩ := (slot_iff w).1 h
  by_cases hx : n / 86400 = d
  · rw [hx, hd] at q4; cases q4
  · omega
/-- one more time of a schedule; none any more; all that is still to come is from here on -/
noncomputable def tStep (c : CR) (a b : Int) (s : Int) (arr : Array Value) (s' : Int) : Prop :=
  ∃ x, s ≤ x ∧ a ≤ x ∧ x ≤ b ∧ slot c x = true ∧ (∀ n, s ≤ n → a ≤ n → n < x → slot c n = false) ∧ arr = #[.int .i64 x] ∧ s' = x + 1
def tEnd (c : CR) (a b : Int) (s : Int) : Prop := ∀ n, s ≤ n → a ≤ n → n ≤ b → slot c n = false
def Rem (c : CR) (a b s p : Int) : Prop := (s ≤ a ∨ s ≤ p) ∧ ∀ n, s ≤ n → a ≤ n → n ≤ b → slot c n = true → p ≤ n
theorem Rem.next {c : CR} {a b s p q : Int} (h : Rem c a b s p) (hpq : p ≤ q) (hq : ∀ n, slot c n = true → p ≤ n → q ≤ n) : Rem c a b s q :=
  ⟨by have := h.1; omega, fun n h1 h2 h3 h4 => hq n h4 (h.2 n h1 h2 h3 h4)⟩
theorem Rem.skip {c : CR} {a b s p q : Int} (h : Rem c a b s p) (hpa : p < a) (hpq : p ≤ q) (hq : ∀ n, slot c n = true → p < n → q ≤ n) : Rem c a b s q :=
  ⟨by have := h.1; omega, fun n h1 h2 h3 h4 => hq n h4 (by omega)⟩
theorem Rem.stop {c : CR} {a b s p : Int} (h : Rem c a b s p) (hb : b < p) : tEnd c a b s := fun n h1 h2 h3 => by
  cases hs : slot c n with
  | false => rfl
  | true => have := h.2 n h1 h2 h3 hs; omega
theorem Rem.step {c : CR} {a b s p : Int} (h : Rem c a b s p) (h1 : a ≤ p) (h2 : p ≤ b) (h3 : slot c p = true) : tStep c a b s #[.int .i64 p] (p + 1) :=
  ⟨p, by have := h.1; omega, h1, h2, h3, fun n n1 n2 n3 => by
    cases hs : slot c n with
    | false => rfl
    | true => have := h.2 n n1 n2 (by omega) hs; omega, rfl, rfl⟩
theorem Rem.gone {c : CR} {a b p q : Int} (hpq : p < q) (hq : ∀ n, slot c n = true → p < n → q ≤ n) : Rem c a b (p + 1) q :=
  ⟨by omega, fun n h1 h2 h3 h4 => hq n h4 (by omega)⟩
theorem Rem.zero {c : CR} {a b : Int} : Rem c a b a (86400 * (a / 86400)) := ⟨by omega, fun n h1 h2 h3 h4 => by omega⟩
/-- the days that begin, or go on -/
noncomputable def dS (a : Int) (k : Nat) : Six := if k = 0 then seS a else seS (86400 * (a / 86400 + k))
def dOk (a b : Int) (k : Nat) : Prop := inCal a ∧ inCal (86400 * (a / 86400 + k)) ∧ 86400 * (a / 86400 + k) ≤ b
noncomputable def dStep (a b : Int) (k : Nat) (arr : Array Value) (k' : Nat) : Prop := dOk a b k ∧ arr = #[.int .i64 (86400 * (a / 86400 + k)), sixV (dS a k)] ∧ k' = k + 1
def dEnd (a b : Int) (k : Nat) : Prop := ¬ dOk a b k
theorem dS_day {a b : Int} {k : Nat} (h : dOk a b k) : (dS a k).y = yr (a / 86400 + k) ∧ (dS a k).m = mo (a / 86400 + k) ∧ (dS a k).d = dy (a / 86400 + k) := by
  unfold dS
  by_cases hk : k = 0
  · subst hk
    rw [if_pos rfl]
    unfold seS
    rw [if_pos h.1, show a / 86400 + ((0 : Nat) : Int) = a / 86400 by omega]
    exact ⟨rfl, rfl, rfl⟩
  · rw [if_neg hk]
    unfold seS
    rw [if_pos h.2.1, show 86400 * (a / 86400 + (k : Int)) / 86400 = a / 86400 + k by omega]
    exact ⟨rfl, rfl, rfl⟩
theorem dEnd_t {c : CR} {a b s : Int} {k : Nat} (w : World) (ha : -62135596800 ≤ a) (h : dEnd a b k) (hr : Rem c a b s (86400 * (a / 86400 + k))) : tEnd c a b s := fun n h1 h2 h3 => by
  cases hs : slot c n with
  | false => rfl
  | true =>
    exfalso
    have hc := slot_cal w hs
    have hp := hr.2 n h1 h2 h3 hs
    refine h ⟨?_, ?_, ?_⟩
    · unfold inCal at hc ⊢; omega
    · unfold inCal at hc ⊢; omega
    · omega
/-! the search -/
def SInv (z : Zo) (c : CR) (fr U up fo : Int) : Prop := (fo = 0 ∧ up = U) ∨ (up = fo - 1 ∧ fr ≤ fo ∧ fo ≤ U ∧ frP z c fo = true)
def Not6 (z : Zo) (c : CR) (fr up t : Int) : Prop := fr ≤ t → t ≤ up → frP z c t = false
theorem Not6.mono {z : Zo} {c : CR} {fr up up' t : Int} (h : Not6 z c fr up t) (hu : up' ≤ up) : Not6 z c fr up' t := fun h1 h2 => h h1 (by omega)
open Classical in
noncomputable def trU (z : Zo) (c : CR) (fr up t : Int) : Int := if fr ≤ t ∧ t ≤ up ∧ frP z c t = true then t - 1 else up
open Classical in
noncomputable def trF (z : Zo) (c : CR) (fr up fo t : Int) : Int := if fr ≤ t ∧ t ≤ up ∧ frP z c t = true then t else fo
theorem try_inv {z : Zo} {c : CR} {fr U up fo t : Int} (h : SInv z c fr U up fo) : SInv z c fr U (trU z c fr up t) (trF z c fr up fo t) ∧ trU z c fr up t ≤ up ∧ Not6 z c fr (trU z c fr up t) t := by
  unfold trU trF
  by_cases q : fr ≤ t ∧ t ≤ up ∧ frP z c t = true
  · rw [if_pos q, if_pos q]
    refine ⟨Or.inr ⟨rfl, q.1, ?_, q.2.2⟩, by omega, fun h1 h2 => by omega⟩
    rcases h with h | h <;> omega
  · rw [if_neg q, if_neg q]
    refine ⟨h, Int.le_refl _, fun h1 h2 => ?_⟩
    cases hf : frP z c t with
    | false => rfl
    | true => exact absurd ⟨h1, h2, hf⟩ q
theorem sinv_up {z : Zo} {c : CR} {fr U up fo : Int} (h : SInv z c fr U up fo) : up ≤ U := by rcases h with h | h <;> omega
/-- by how much a zone is ahead at least, and at most -/
def lsZ (z : Zo) : Int := if z.has = true then min z.off z.ahead else z.off
def msZ (z : Zo) : Int := if z.has = true then max z.off z.ahead else z.off
theorem off_two {z : Zo} (t : Int) : offP z t = lsZ z ∨ offP z t = msZ z := by
  unfold offP offY lsZ msZ
  by_cases h : z.has = true
  · rw [if_pos h, if_pos h, if_pos h]
    split <;> omega
  · rw [if_neg h, if_neg h, if_neg h]; exact Or.inl rfl
theorem ls_ms (z : Zo) : lsZ z ≤ msZ z := by unfold lsZ msZ; split <;> omega
theorem lsms_bd {z : Zo} (h : mayZ z = true) : -89999 ≤ lsZ z ∧ msZ z ≤ 93599 := by
  unfold lsZ msZ
  have := may_off h
  by_cases hh : z.has = true
  · have := may_T h hh
    rw [if_pos hh, if_pos hh]; omega
  · rw [if_neg hh, if_neg hh]; omega
theorem first_mono {a b : Int} (h : 1 ≤ a) (hab : a ≤ b) : first a 1 ≤ first b 1 := by
  have := dby_mono a b h hab
  unfold first; rw [cum_1, cum_1]; omega
theorem yr_mono {t u y v : Int} (h : Lc.Of t y) (k : Lc.Of u v) (htu : t ≤ u) : y ≤ v := by
  by_cases q : y ≤ v
  · exact q
  · have := first_mono (a := v + 1) (b := y) (by have := k.1; omega) (by omega)
    have := h.2.1; have := k.2.2
    omega
theorem lst_at {f : Int → Int} (T : Turn f) {t y : Int} (h : Lc.Of t y) (h3 : 3 ≤ y) : ∃ k, y - 2 ≤ k ∧ k ≤ y + 1 ∧ f k ≤ t ∧ t < f (k + 1) := by
  have b := T.behind h h3; have a := T.ahead h
  by_cases q1 : f (y + 1) ≤ t
  · exact ⟨y + 1, by omega, by omega, q1, by rw [show y + 1 + 1 = y + 2 by omega]; exact a⟩
  · by_cases q2 : f y ≤ t
    · exact ⟨y, by omega, by omega, q2, by omega⟩
    · by_cases q3 : f (y - 1) ≤ t
      · exact ⟨y - 1, by omega, by omega, q3, by rw [show y - 1 + 1 = y by omega]; omega⟩
      · exact ⟨y - 2, by omega, by omega, b, by rw [show y - 2 + 1 = y - 1 by omega]; omega⟩
theorem lst_near {f : Int → Int} (T : Turn f) {t y k : Int} (h : Lc.Of t y) (h3 : 3 ≤ y) (hk : 1 ≤ k) (hf : f k = t) : y - 1 ≤ k ∧ k ≤ y + 1 := by
  have a := T.ahead h
  constructor
  · by_cases q : y - 1 ≤ k
    · exact q
    · have m := T.mono (a := k) (b := y - 2) hk (by omega)
      have m2 := T.hi (y - 2) (by omega)
      have b := first_next (y - 1) (by omega); have c := first_next (y - 2) (by omega)
      have d := lp_01 (y - 1); have e := lp_01 (y - 2)
      have := h.2.1
      rw [show y - 1 + 1 = y by omega] at b
      rw [show y - 2 + 1 = y - 1 by omega] at c
      omega
  · by_cases q : k ≤ y + 1
    · exact q
    · have m := T.mono (a := y + 2) (b := k) (by omega) (by omega)
      omega
/-- where the clock is turned a turn lies -/
theorem turn_there {z : Zo} {t : Int} (w : World) (hz : mayZ z = true) (h1 : 1 ≤ t) (h2 : t ≤ 253402300799) (hne : offP z (t - 1) ≠ offP z t) :
    z.has = true ∧ ∃ k, yr (t / 86400) - 1 ≤ k ∧ k ≤ yr (t / 86400) + 1 ∧ (fromT z k = t ∨ uptoT z k = t) := by
  obtain ⟨o, y1, y2⟩ := of_year t w (by simp [scB]; omega)
  obtain ⟨o', y1', y2'⟩ := of_year (t - 1) w (by simp [scB]; omega)
  have hh : z.has = true := by
    cases hh : z.has with
    | true => rfl
    | false => exact absurd (by unfold offP offY; rw [hh]; rfl) hne
  refine ⟨hh, ?_⟩
  have same : ∀ f, Turn f → (∀ k, 1 ≤ k → f k ≠ t) → lst f (t - 1) (yr ((t - 1) / 86400)) = lst f t (yr (t / 86400)) := fun f T hno => by
    obtain ⟨k, k1, k2, k3, k4⟩ := lst_at T o (by omega)
    have := hno k (by omega)
    rw [T.lst_is o (by omega) (k := k) (by omega) k3 k4, T.lst_is o' (by omega) (k := k) (by omega) (by omega) (by omega)]
  by_cases e1 : ∃ k, 1 ≤ k ∧ fromT z k = t
  · obtain ⟨k, k1, k2⟩ := e1
    have := lst_near (turn_from hz hh) o (by omega) k1 k2
    exact ⟨k, this.1, this.2, Or.inl k2⟩
  by_cases e2 : ∃ k, 1 ≤ k ∧ uptoT z k = t
  · obtain ⟨k, k1, k2⟩ := e2
    have := lst_near (turn_upto hz hh) o (by omega) k1 k2
    exact ⟨k, this.1, this.2, Or.inr k2⟩
  exfalso
  refine hne ?_
  unfold offP offY
  rw [same _ (turn_from hz hh) (fun k hk q => e1 ⟨k, hk, q⟩), same _ (turn_upto hz hh) (fun k hk q => e2 ⟨k, hk, q⟩)]
/-- whatever fires has been tried -/
theorem all_tried {z : Zo} {c : CR} {fr U V up : Int} (w : World) (hz : mayZ z = true) (h1 : 86400 ≤ fr) (h2 : U ≤ 253402214400) (hV : up ≤ V) (hU : up ≤ U)
    (hT : ∀ y, yr (fr / 86400) - 1 ≤ y → y ≤ yr (U / 86400) + 1 → Not6 z c fr up (tF z y) ∧ Not6 z c fr up (tU z y))
    (hS : ∀ n, fr + lsZ z ≤ n → n ≤ V + msZ z → slot c n = true → (Not6 z c fr up (n - msZ z) ∧ Not6 z c fr up (n - lsZ z)) ∨ up < n - msZ z) :
    ∀ t, fr ≤ t → t ≤ up → frP z c t = false := fun t t1 t2 => by
  cases hf : frP z c t with
  | false => rfl
  | true =>
    exfalso
    have hsc : scB t = true := by simp [scB]; omega
    have hsc' : scB (t - 1) = true := by simp [scB]; omega
    have hA : oA z t = offP z t := by unfold oA oOk; rw [hz, hsc]; rfl
    have hA' : oA z (t - 1) = offP z (t - 1) := by unfold oA oOk; rw [hz, hsc']; rfl
    have hf' := hf
    unfold frP at hf'
    rw [Bool.and_eq_true, Bool.or_eq_true] at hf'
    rcases hf'.2 with q | q
    · simp only [Bool.and_eq_true, decide_eq_true_eq] at q
      have hat : AtOk z t := by
        by_cases k : AtOk z t
        · exact k
        · have := q.1.1; unfold atE at this; rw [if_neg k] at this; cases this
      have hsl : slot c (t + offP z t) = true := by
        unfold slot seE seS
        rw [if_pos hat.2, if_pos hat.2]
        have e := q.1.2
        unfold atS at e
        rw [if_pos hat] at e
        rw [e]; rfl
      have two := off_two (z := z) t
      have lm := ls_ms z
      rcases hS (t + offP z t) (by omega) (by omega) hsl with ⟨n1, n2⟩ | k
      · rcases two with e | e
        · rw [e, show t + lsZ z - lsZ z = t by omega] at n2
          have := n2 t1 t2; rw [hf] at this; cases this
        · rw [e, show t + msZ z - msZ z = t by omega] at n1
          have := n1 t1 t2; rw [hf] at this; cases this
      · omega
    · simp only [Bool.and_eq_true, decide_eq_true_eq] at q
      have hy : gYes z t := by
        by_cases k : gYes z t
        · exact k
        · exact absurd (by unfold gN; rw [if_neg k]) q.1
      have hlt := hy.2
      rw [hA, hA'] at hlt
      obtain ⟨hh, k, k1, k2, k3⟩ := turn_there (t := t) w hz (by omega) (by omega) (by omega)
      obtain ⟨o, y1, y2⟩ := of_year t w hsc
      obtain ⟨o0, y3, y4⟩ := of_year fr w (by simp [scB]; omega)
      obtain ⟨o1, y5, y6⟩ := of_year U w (by simp [scB]; omega)
      have m1 := yr_mono o0 o t1
      have m2 := yr_mono o o1 (by omega)
      have hok : tOk z k = true := by unfold tOk yrB; rw [hz, hh]; simp; omega
      obtain ⟨n1, n2⟩ := hT k (by omega) (by omega)
      unfold tF at n1; unfold tU at n2
      rw [if_pos hok] at n1 n2
      rcases k3 with e | e
      · rw [e] at n1; have := n1 t1 t2; rw [hf] at this; cases this
      · rw [e] at n2; have := n2 t1 t2; rw [hf] at this; cases this
/-- what has been found is the first one -/
theorem next_found {z : Zo} {c : CR} {a b fr U up fo : Int} (ha : 0 ≤ a) (hb : b - a ≤ 3456000) (hfr : fr = max (a + 1) 86400) (hU : U = min b 253402214400)
    (hi : SInv z c fr U up fo) (hn : ∀ t, fr ≤ t → t ≤ up → frP z c t = false) : nxP z c a b = if fo = 0 then none else some fo := by
  have low : ∀ t, a < t → t < fr → frP z c t = false := fun t t1 t2 => by
    cases hf : frP z c t with
    | false => rfl
    | true => have := frP_out hf; omega
  unfold nxP
  rw [if_neg (by omega)]
  rcases hi with ⟨rfl, rfl⟩ | ⟨h1, h2, h3, h4⟩
  · rw [if_pos rfl]
    refine nxF_not (fun t t1 t2 => ?_)
    by_cases q : t < fr
    · exact low t (by omega) q
    · by_cases q2 : t ≤ up
      · exact hn t (by omega) q2
      · cases hf : frP z c t with
        | false => rfl
        | true => have := frP_out hf; omega
  · rw [if_neg (by omega)]
    refine nxF_of (by omega) (by omega) h4 (fun t t1 t2 => ?_)
    by_cases q : t < fr
    · exact low t (by omega) q
    · exact hn t (by omega) (by omega)
theorem next_out {z : Zo} {c : CR} {a b : Int} (h : mayZ z = false ∨ mayC c = false ∨ a < 0 ∨ b ≤ a ∨ 3456000 < b - a ∨ min b 253402214400 < max (a + 1) 86400) : nxP z c a b = none := by
  unfold nxP
  by_cases q : a < 0 ∨ 3456000 < b - a
  · rw [if_pos q]
  · rw [if_neg q]
    refine nxF_not (fun t t1 t2 => ?_)
    cases hf : frP z c t with
    | false => rfl
    | true =>
      obtain ⟨f1, f2, f3, f4⟩ := frP_out hf
      rcases h with h | h | h | h | h | h
      · rw [f1] at h; cases h
      · rw [f2] at h; cases h
      all_goals omega
/-- what fires for what is skipped: by the gap's own answer -/
theorem sk_gap {z : Zo} {c : CR} {t : Int} (h1 : 1 ≤ t) (h2 : t ≤ 253402214400) (hz : mayZ z = true) : (decide (gN z t ≠ 0) && skP c (t + oA z (t - 1)) (gN z t)) = true ↔ gYes z t ∧ inCal (t + oA z (t - 1)) ∧ ∃ x, t + oA z (t - 1) ≤ x ∧ x ≤ t + oA z (t - 1) + gN z t - 1 ∧ slot c x = true := by
  have ob := oA_bd z (t - 1)
  by_cases hy : gYes z t
  · have hg : gN z t ≠ 0 := by unfold gN; rw [if_pos hy]; have := hy.2; omega
    rw [decide_eq_true hg, Bool.true_and, skP_iff]
    constructor
    · rintro ⟨x, x1, x2, x3⟩
      have hc : inCal x := by
        by_cases k : inCal x
        · exact k
        · unfold slot seE at x3; rw [if_neg k] at x3; cases x3
      exact ⟨hy, by unfold inCal at hc ⊢; omega, x, x1, x2, x3⟩
    · rintro ⟨_, _, h⟩; exact h
  · have hg : ¬ gN z t ≠ 0 := by unfold gN; rw [if_neg hy]; simp
    rw [decide_eq_false hg]
    constructor
    · intro q; cases q
    · intro q; exact absurd q.1 hy
end Go.Proofs.YtilgamjahediiaaGreatDoor
