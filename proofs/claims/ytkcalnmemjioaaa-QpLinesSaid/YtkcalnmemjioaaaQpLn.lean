/- Plain mathematics of quoted text's lines. -/
import Derived.Test.YtkcalnmemjioaaaQpPure
set_option linter.unusedSimpArgs false
set_option linter.unusedVariables false
namespace Go.Proofs.Ytkcalnmemjioaaa.Qp
def blk (p : Option UInt8) : Prop := ∃ c, p = some c ∧ (c.toNat = 32 ∨ c.toNat = 9)
/-- lines as they should be, behind a byte, k bytes of the line being there already -/
def lok : Option UInt8 → Nat → List UInt8 → Prop
  | p, _, [] => ¬ blk p
  | p, k, c :: r => if c.toNat = 13 then (∃ d, r[0]? = some d ∧ d.toNat = 10) ∧ ¬ blk p ∧ lok (some c) k r
    else if c.toNat = 10 then (∃ d, p = some d ∧ d.toNat = 13) ∧ lok (some c) 0 r
    else k + 1 ≤ 76 ∧ (c.toNat = 9 ∨ 32 ≤ c.toNat ∧ c.toNat ≤ 126) ∧ lok (some c) (k + 1) r
theorem blk_some {c : UInt8} (h : ¬ (c.toNat = 32 ∨ c.toNat = 9)) : ¬ blk (some c) := by
  rintro ⟨d, e, q⟩; cases e; exact h q
theorem lok_lit {p : Option UInt8} {k : Nat} {c : UInt8} {r : List UInt8} (h1 : k + 1 ≤ 76) (h2 : c.toNat = 9 ∨ 32 ≤ c.toNat ∧ c.toNat ≤ 126) (h : lok (some c) (k + 1) r) : lok p k (c :: r) := by
  unfold lok
  rw [if_neg (by omega), if_neg (by omega)]
  exact ⟨h1, h2, h⟩
theorem lok_end {p : Option UInt8} {k : Nat} {r : List UInt8} (hp : ¬ blk p) (h : lok (some 10) 0 r) : lok p k (13 :: 10 :: r) := by
  unfold lok
  rw [if_pos (by rfl)]
  refine ⟨⟨10, rfl, rfl⟩, hp, ?_⟩
  unfold lok
  rw [if_neg (by decide), if_pos (by rfl)]
  exact ⟨⟨13, rfl, rfl⟩, h⟩
theorem sign_bd {c : UInt8} (h : isS c = true) : 33 ≤ c.toNat ∧ c.toNat ≤ 126 := by unfold isS at h; simpa using h
theorem lok_quo {p : Option UInt8} {k : Nat} {c : UInt8} {r : List UInt8} (hk : k + 3 ≤ 75) (h : ∀ d : UInt8, ¬ (d.toNat = 32 ∨ d.toNat = 9) → lok (some d) (k + 3) r) : lok p k (quo c ++ r) := by
  have h1 := sign_bd (hx_sign _ (u8_half c))
  have h2 := sign_bd (hx_sign (c.toNat % 16) (Nat.mod_lt _ (by decide)))
  exact lok_lit (by omega) (Or.inr (by decide)) (lok_lit (by omega) (Or.inr (by omega)) (lok_lit (by omega) (Or.inr (by omega)) (h _ (by omega))))
theorem lok_cod {p : Option UInt8} {k : Nat} {c : UInt8} {b r : List UInt8} (h10 : ¬ c.toNat = 10) (hk : k + (cod c b).length ≤ 75) (h : ∀ d : UInt8, ((d.toNat = 32 ∨ d.toNat = 9) → on b = true) → lok (some d) (k + (cod c b).length) r) : lok p k (cod c b ++ r) := by
  cases hp : pln c b with
  | true =>
    have hc : cod c b = [c] := by unfold cod; rw [hp]; rfl
    rw [hc] at hk h ⊢
    unfold pln at hp
    split at hp
    · rename_i hB
      unfold isB at hB
      simp only [decide_eq_true_eq] at hB
      refine lok_lit (by simp at hk; omega) (by omega) (h c (fun _ => hp))
    · rename_i hB
      simp only [Bool.and_eq_true, decide_eq_true_eq] at hp
      have := sign_bd hp.1
      refine lok_lit (by simp at hk; omega) (by omega) (h c (fun q => by omega))
  | false =>
    have hc : cod c b = quo c := by unfold cod; rw [hp]; rfl
    rw [hc] at hk h ⊢
    exact lok_quo (by simpa [quo] using hk) (fun d hd => h d (fun q => absurd q hd))
theorem lok_enc : ∀ (l : List UInt8) (p : Option UInt8) (k : Nat), k ≤ 75 → (blk p → on l = true) → lok p k (enc k l)
  | [], p, k, _, h => by
    rw [enc]
    unfold lok
    exact fun q => absurd (h q) (by decide)
  | c :: r, p, k, hk, h => by
    rw [enc]
    by_cases h10 : c.toNat = 10
    · rw [if_pos h10]
      refine lok_end (fun q => ?_) (lok_enc r _ 0 (by omega) (fun q => absurd q (blk_some (by decide))))
      have := h q
      unfold on at this
      simp only [decide_eq_true_eq] at this
      exact this h10
    rw [if_neg h10]
    have hl := cod_len c r
    have ih : ∀ (k : Nat), k ≤ 75 → ∀ d : UInt8, ((d.toNat = 32 ∨ d.toNat = 9) → on r = true) → lok (some d) k (enc k r) := fun k hk d hd =>
      lok_enc r (some d) k hk (fun ⟨e, he, q⟩ => by cases he; exact hd q)
    by_cases hw : 75 < k + (cod c r).length
    · rw [if_pos hw]
      refine lok_lit (by omega) (Or.inr (by decide)) (lok_end (blk_some (by decide)) ?_)
      refine lok_cod h10 (by omega) (fun d hd => ?_)
      rw [Nat.zero_add]
      exact ih _ (by omega) d hd
    · rw [if_neg hw]
      exact lok_cod h10 (by omega) (fun d hd => ih _ (by omega) d hd)
/-- the byte ahead -/
def prv (x : List UInt8) : Nat → Option UInt8
  | 0 => none
  | i + 1 => x[i]?
theorem lok_start (l : List UInt8) : lok (prv (enc 0 l) 0) 0 ((enc 0 l).drop 0) := lok_enc l none 0 (by omega) (fun ⟨c, e, _⟩ => by cases e)
end Go.Proofs.Ytkcalnmemjioaaa.Qp
