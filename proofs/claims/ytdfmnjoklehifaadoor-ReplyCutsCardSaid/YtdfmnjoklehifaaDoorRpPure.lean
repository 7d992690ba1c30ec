/- Plain mathematics of a server's answers: numbers, lines, answers; what Put, Read, Write and May answer; that cuts do not matter, and what is written is read. -/
import Derived.KernelRfl
import Derived.Lib.ItoaNum
import Derived.Lib.Strings
import Derived.Lib.AtoiAllCases
set_option linter.unusedSimpArgs false
set_option linter.unusedVariables false
namespace Go.Proofs.YtdfmnjoklehifaaDoor.Bk.Rp
abbrev B := List UInt8
/-! texts cut in pieces -/
/-- what stands between bytes of a kind -/
def splt (c : UInt8) : List UInt8 → List (List UInt8)
  | [] => [[]]
  | b :: r => if b = c then [] :: splt c r else match splt c r with | [] => [[b]] | p :: q => (b :: p) :: q
theorem splt_ne (c : UInt8) (l : List UInt8) : splt c l ≠ [] := by
  cases l with
  | nil => simp [splt]
  | cons b r => unfold splt; split
                · simp
                · split <;> simp
theorem splt_hit (c : UInt8) (r : List UInt8) : splt c (c :: r) = [] :: splt c r := by rw [splt, if_pos rfl]
theorem splt_miss {b c : UInt8} (h : b ≠ c) (r : List UInt8) : ∃ p q, splt c r = p :: q ∧ splt c (b :: r) = (b :: p) :: q := by
  cases hs : splt c r with
  | nil => exact absurd hs (splt_ne c r)
  | cons p q => exact ⟨p, q, rfl, by rw [splt, if_neg h, hs]⟩
theorem splt_app {c : UInt8} (p r : List UInt8) (h : c ∉ p) : splt c (p ++ c :: r) = p :: splt c r := by
  induction p with
  | nil => exact splt_hit c r
  | cons b p ih =>
    have hb : b ≠ c := fun e => h (by simp [e])
    have hp : c ∉ p := fun e => h (by simp [e])
    rw [List.cons_append, splt, if_neg hb, ih hp]
theorem splt_none {c : UInt8} (p : List UInt8) (h : c ∉ p) : splt c p = [p] := by
  induction p with
  | nil => rfl
  | cons b p ih =>
    have hb : b ≠ c := fun e => h (by simp [e])
    have hp : c ∉ p := fun e => h (by simp [e])
    rw [splt, if_neg hb, ih hp]
theorem cut_cases (c : UInt8) (l : List UInt8) : c ∉ l ∨ ∃ p r, l = p ++ c :: r ∧ c ∉ p := by
  induction l with
  | nil => simp
  | cons b l ih =>
    by_cases hb : b = c
    · exact Or.inr ⟨[], l, by simp [hb], by simp⟩
    · rcases ih with h | ⟨p, r, rfl, hp⟩
      · exact Or.inl (by simp; exact ⟨fun e => hb e.symm, h⟩)
      · exact Or.inr ⟨b :: p, r, by simp, by simp; exact ⟨fun e => hb e.symm, hp⟩⟩
theorem splt_mem {c : UInt8} : ∀ (l : List UInt8), ∀ t ∈ splt c l, c ∉ t ∧ t.length ≤ l.length
  | [], t, h => by simp [splt] at h; subst h; simp
  | b :: r, t, h => by
    by_cases hb : b = c
    · subst hb
      rw [splt_hit] at h
      rcases List.mem_cons.1 h with rfl | h
      · simp
      · have := splt_mem r t h; exact ⟨this.1, by simp; omega⟩
    · obtain ⟨p, q, h1, h2⟩ := splt_miss hb r
      rw [h2] at h
      rcases List.mem_cons.1 h with rfl | h
      · have := splt_mem r p (by rw [h1]; simp)
        exact ⟨by simp; exact ⟨fun e => hb e.symm, this.1⟩, by simp; omega⟩
      · have := splt_mem r t (by rw [h1]; simp [h])
        exact ⟨this.1, by simp; omega⟩
theorem splt_len (c : UInt8) : ∀ l : List UInt8, (splt c l).length ≤ l.length + 1
  | [] => by simp [splt]
  | b :: r => by
    have ih := splt_len c r
    by_cases hb : b = c
    · subst hb; rw [splt_hit]; simp; omega
    · obtain ⟨p, q, h1, h2⟩ := splt_miss hb r
      rw [h2]; rw [h1] at ih; simp at ih ⊢; omega
/-! numbers -/
def isD (c : UInt8) : Bool := decide (48 ≤ c.toNat) && decide (c.toNat ≤ 57)
theorem dig_nat {d : Nat} (h : d < 10) : (UInt8.ofNat (48 + d)).toNat = 48 + d := by
  rw [UInt8.toNat_ofNat']; omega
theorem dig_of {c : UInt8} (h : isD c = true) : UInt8.ofNat (48 + (c.toNat - 48)) = c ∧ c.toNat - 48 < 10 ∧ 48 ≤ c.toNat := by
  unfold isD at h
  simp only [Bool.and_eq_true, decide_eq_true_eq] at h
  refine ⟨?_, by omega, h.1⟩
  rw [show 48 + (c.toNat - 48) = c.toNat by omega]
  exact UInt8.ofNat_toNat
theorem dig_is {d : Nat} (h : d < 10) : isD (UInt8.ofNat (48 + d)) = true := by
  unfold isD; rw [dig_nat h]; simp; omega
theorem isD_iff {c : UInt8} : isD c = true ↔ 48 ≤ c.toNat ∧ c.toNat ≤ 57 := by unfold isD; simp
/-- a digit -/
abbrev dg (d : Nat) : UInt8 := UInt8.ofNat (48 + d)
theorem dec1 {n : Nat} (h : n < 10) : Lib.decDigits n = [dg n] := Lib.decDigits_one h
theorem dec2 {n : Nat} (h : 10 ≤ n) (h2 : n < 100) : Lib.decDigits n = [dg (n / 10), dg (n % 10)] := by
  rw [Lib.decDigits, dif_neg (by omega), dec1 (by omega)]; rfl
theorem dec3 {n : Nat} (h : 100 ≤ n) (h2 : n < 1000) : Lib.decDigits n = [dg (n / 100), dg (n / 10 % 10), dg (n % 10)] := by
  rw [Lib.decDigits, dif_neg (by omega), dec2 (by omega) (by omega), show n / 10 / 10 = n / 100 by omega]; rfl
theorem dg_ne48 {d : Nat} (h : d < 10) (h0 : d ≠ 0) : dg d ≠ 48 := fun e => by
  have := congrArg UInt8.toNat e
  rw [dig_nat h] at this
  simp at this; omega
/-- one to three digits without 0 ahead -/
def nm : B → Option Nat
  | [a] => if isD a = true then some (a.toNat - 48) else none
  | [a, b] => if isD a = true ∧ isD b = true ∧ a ≠ 48 then some ((a.toNat - 48) * 10 + (b.toNat - 48)) else none
  | [a, b, c] => if isD a = true ∧ isD b = true ∧ isD c = true ∧ a ≠ 48 then some (((a.toNat - 48) * 10 + (b.toNat - 48)) * 10 + (c.toNat - 48)) else none
  | _ => none
theorem nm_dec {n : Nat} (h : n ≤ 999) : nm (Lib.decDigits n) = some n := by
  by_cases h1 : n < 10
  · rw [dec1 h1, nm, if_pos (dig_is h1), dig_nat h1]; congr 1; omega
  · by_cases h2 : n < 100
    · have p : n / 10 < 10 := by omega
      have q : n % 10 < 10 := by omega
      rw [dec2 (by omega) h2, nm, if_pos ⟨dig_is p, dig_is q, dg_ne48 p (by omega)⟩, dig_nat p, dig_nat q]; congr 1; omega
    · have p : n / 100 < 10 := by omega
      have q : n / 10 % 10 < 10 := by omega
      have r : n % 10 < 10 := by omega
      rw [dec3 (by omega) (by omega), nm, if_pos ⟨dig_is p, dig_is q, dig_is r, dg_ne48 p (by omega)⟩, dig_nat p, dig_nat q, dig_nat r]; congr 1; omega
theorem nz {a : UInt8} (h : isD a = true) (h0 : a ≠ 48) : 1 ≤ a.toNat - 48 := by
  have := (dig_of h).2.2
  by_cases q : a.toNat = 48
  · exact absurd (UInt8.toNat_inj.1 (by simpa using q)) h0
  · omega
theorem nm_some {s : B} {n : Nat} (h : nm s = some n) : n ≤ 999 ∧ s = Lib.decDigits n := by
  match s, h with
  | [a], h =>
    rw [nm] at h
    split at h
    · rename_i hd
      obtain ⟨h1, h2, _⟩ := dig_of hd
      cases h
      exact ⟨by omega, by rw [dec1 h2, dg, h1]⟩
    · cases h
  | [a, b], h =>
    rw [nm] at h
    split at h
    · rename_i hd
      obtain ⟨h1, h2, _⟩ := dig_of hd.1
      obtain ⟨h3, h4, _⟩ := dig_of hd.2.1
      have h5 := nz hd.1 hd.2.2
      cases h
      refine ⟨by omega, ?_⟩
      rw [dec2 (by omega) (by omega), show ((a.toNat - 48) * 10 + (b.toNat - 48)) / 10 = a.toNat - 48 by omega, show ((a.toNat - 48) * 10 + (b.toNat - 48)) % 10 = b.toNat - 48 by omega, dg, dg, h1, h3]
    · cases h
  | [a, b, c], h =>
    rw [nm] at h
    split at h
    · rename_i hd
      obtain ⟨h1, h2, _⟩ := dig_of hd.1
      obtain ⟨h3, h4, _⟩ := dig_of hd.2.1
      obtain ⟨h6, h7, _⟩ := dig_of hd.2.2.1
      have h5 := nz hd.1 hd.2.2.2
      cases h
      generalize hx : a.toNat - 48 = x at *
      generalize hy : b.toNat - 48 = y at *
      generalize hz : c.toNat - 48 = z at *
      refine ⟨by omega, ?_⟩
      rw [dec3 (by omega) (by omega), show ((x * 10 + y) * 10 + z) / 100 = x by omega, show ((x * 10 + y) * 10 + z) / 10 % 10 = y by omega, show ((x * 10 + y) * 10 + z) % 10 = z by omega, dg, dg, dg, h1, h3, h6]
    · cases h
  | [], h => cases h
  | _ :: _ :: _ :: _ :: _, h => cases h
theorem nm_iff {s : B} {n : Nat} : nm s = some n ↔ n ≤ 999 ∧ s = Lib.decDigits n := ⟨nm_some, fun ⟨h, e⟩ => by rw [e]; exact nm_dec h⟩
theorem dec_isD : ∀ (k n : Nat), n ≤ k → ∀ c ∈ Lib.decDigits n, isD c = true
  | 0, n, h, c, hc => by
    obtain rfl : n = 0 := by omega
    rw [dec1 (by omega)] at hc
    simp only [List.mem_singleton] at hc; subst hc; exact dig_is (by omega)
  | k + 1, n, h, c, hc => by
    by_cases h10 : n < 10
    · rw [dec1 h10] at hc
      simp only [List.mem_singleton] at hc; subst hc; exact dig_is h10
    · rw [Lib.decDigits, dif_neg h10] at hc
      rcases List.mem_append.1 hc with hc | hc
      · exact dec_isD k (n / 10) (by omega) c hc
      · simp only [List.mem_singleton] at hc; subst hc; exact dig_is (Nat.mod_lt _ (by omega))
/-- no digit -/
theorem dec_no {n : Nat} {c : UInt8} (h : isD c = false) : c ∉ Lib.decDigits n := fun hc => by rw [dec_isD n n (Nat.le_refl _) c hc] at h; cases h
/-- what Atoi says of three bytes, where that is a code -/
theorem atoi_code {s : B} {v : Int} (hs : s.length = 3) (h : Lib.atoiAll s = .ok v) (h1 : 200 ≤ v) : ∃ n : Nat, v = n ∧ nm s = some n := by
  match s, hs with
  | [a, b, c], _ =>
    have two : ∀ x y : UInt8, ∀ u, Lib.parseMag [x, y] = .ok u → u ≤ 99 := by
      intro x y u hu
      unfold Lib.parseMag at hu
      rw [if_neg (by simp)] at hu
      simp only [Lib.parseUint10] at hu
      split at hu
      · rw [if_neg (by omega), if_neg (by omega)] at hu
        split at hu
        · rw [if_neg (by omega), if_neg (by omega)] at hu
          cases hu
          omega
        · cases hu
      · cases hu
    by_cases h43 : a.toNat = 43
    · have : a = 43 := UInt8.toNat_inj.1 (by simpa using h43)
      subst this
      unfold Lib.atoiAll at h
      simp only [show (43 : UInt8).toNat = 43 from rfl, true_or, if_true] at h
      cases hp : Lib.parseMag [b, c] with
      | ok u =>
        have := two b c u hp
        rw [hp] at h
        simp only [] at h
        rw [if_neg (by omega), if_neg (by omega), if_neg (by omega)] at h
        cases h; omega
      | «syntax» => rw [hp] at h; cases h
      | range => rw [hp] at h; cases h
    · by_cases h45 : a.toNat = 45
      · have : a = 45 := UInt8.toNat_inj.1 (by simpa using h45)
        subst this
        unfold Lib.atoiAll at h
        simp only [show (45 : UInt8).toNat = 45 from rfl, or_true, if_true] at h
        cases hp : Lib.parseMag [b, c] with
        | ok u =>
          have := two b c u hp
          rw [hp] at h
          simp only [] at h
          rw [if_neg (by omega), if_neg (by omega)] at h
          simp at h
          omega
        | «syntax» => rw [hp] at h; cases h
        | range => rw [hp] at h; cases h
      · unfold Lib.atoiAll at h
        simp only [h43, h45, or_self, if_false] at h
        unfold Lib.parseMag at h
        rw [if_neg (by simp)] at h
        simp only [Lib.parseUint10] at h
        by_cases ha : 48 ≤ a.toNat ∧ a.toNat ≤ 57
        · rw [if_pos ha, if_neg (by omega), if_neg (by omega)] at h
          by_cases hb : 48 ≤ b.toNat ∧ b.toNat ≤ 57
          · rw [if_pos hb, if_neg (by omega), if_neg (by omega)] at h
            by_cases hc : 48 ≤ c.toNat ∧ c.toNat ≤ 57
            · rw [if_pos hc, if_neg (by omega), if_neg (by omega)] at h
              simp only [] at h
              rw [if_neg (by omega), if_neg (by simp)] at h
              cases h
              refine ⟨_, rfl, ?_⟩
              have ha0 : a ≠ 48 := fun e => by
                subst e
                simp at h1
                omega
              rw [nm, if_pos ⟨isD_iff.2 ha, isD_iff.2 hb, isD_iff.2 hc, ha0⟩]
              simp
            · rw [if_neg hc] at h; cases h
          · rw [if_neg hb] at h; cases h
        · rw [if_neg ha] at h; cases h
theorem atoi_dec3 {n : Nat} (h : n ≤ 999) : Lib.atoiAll (Lib.decDigits n) = .ok (n : Int) := by
  have hp : ∀ x : UInt8, isD x = true → ¬ (x.toNat = 43 ∨ x.toNat = 45) := fun x hx e => by have := isD_iff.1 hx; omega
  by_cases h1 : n < 10
  · have p := dig_is h1
    rw [dec1 h1]
    unfold Lib.atoiAll
    simp only [dig_nat h1]
    rw [if_neg (by omega)]
    unfold Lib.parseMag
    rw [if_neg (by simp)]
    simp only [Lib.parseUint10, dig_nat h1]
    rw [if_pos (by omega), if_neg (by omega), if_neg (by omega)]
    simp only []
    rw [if_neg (by omega), if_neg (by omega), if_neg (by omega)]
    congr 2; omega
  · by_cases h2 : n < 100
    · have p : n / 10 < 10 := by omega
      have q : n % 10 < 10 := by omega
      rw [dec2 (by omega) h2]
      unfold Lib.atoiAll
      simp only [dig_nat p, dig_nat q]
      rw [if_neg (by omega)]
      unfold Lib.parseMag
      rw [if_neg (by simp)]
      simp only [Lib.parseUint10, dig_nat p, dig_nat q]
      rw [if_pos (by omega), if_neg (by omega), if_neg (by omega), if_pos (by omega), if_neg (by omega), if_neg (by omega)]
      simp only []
      rw [if_neg (by omega), if_neg (by omega), if_neg (by omega)]
      congr 2; omega
    · have p : n / 100 < 10 := by omega
      have q : n / 10 % 10 < 10 := by omega
      have r : n % 10 < 10 := by omega
      rw [dec3 (by omega) (by omega)]
      unfold Lib.atoiAll
      simp only [dig_nat p, dig_nat q, dig_nat r]
      rw [if_neg (by omega)]
      unfold Lib.parseMag
      rw [if_neg (by simp)]
      simp only [Lib.parseUint10, dig_nat p, dig_nat q, dig_nat r]
      rw [if_pos (by omega), if_neg (by omega), if_neg (by omega), if_pos (by omega), if_neg (by omega), if_neg (by omega), if_pos (by omega), if_neg (by omega), if_neg (by omega)]
      simp only []
      rw [if_neg (by omega), if_neg (by omega), if_neg (by omega)]
      congr 2; omega
/-! enhanced codes -/
/-- a text's first word -/
def bef (s : B) : B := (splt 32 s).headD []
theorem bef_hit {x r : B} (h : (32 : UInt8) ∉ x) : bef (x ++ 32 :: r) = x := by unfold bef; rw [splt_app x r h]; rfl
theorem bef_no {x : B} (h : (32 : UInt8) ∉ x) : bef x = x := by unfold bef; rw [splt_none x h]; rfl
abbrev M3 := Int × Int × Int
/-- three numbers of a code -/
def en3 (c : Int) : List B → M3
  | [p, q, r] => match nm p, nm q, nm r with
    | some a, some b, some d => if (a : Int) = c.tdiv 100 ∧ a ≠ 3 then (a, b, d) else (0, 0, 0)
    | _, _, _ => (0, 0, 0)
  | _ => (0, 0, 0)
/-- what is enhanced in a text, of a code -/
def enh (c : Int) (s : B) : M3 := en3 c (splt 46 (bef s))
/-! lines -/
def okC (c : Int) : Bool := decide (200 ≤ c) && decide (c ≤ 599)
theorem okC_iff {c : Int} : okC c = true ↔ 200 ≤ c ∧ c ≤ 599 := by unfold okC; simp
/-- a text of a line -/
def okT (t : B) : Bool := decide (t.length ≤ 506) && decide ((13 : UInt8) ∉ t ∧ (10 : UInt8) ∉ t)
theorem okT_iff {t : B} : okT t = true ↔ t.length ≤ 506 ∧ (13 : UInt8) ∉ t ∧ (10 : UInt8) ∉ t := by unfold okT; simp
abbrev sgn (last : Bool) : UInt8 := if last then 32 else 45
/-- a line without its end -/
def lb (c : Int) (last : Bool) (t : B) : B := Lib.decDigits c.toNat ++ sgn last :: t
/-- a line -/
def ln (c : Int) (last : Bool) (t : B) : B := lb c last t ++ [13, 10]
abbrev Rep := Int × List B × M3
/-- lines that more follow -/
def pend (c : Int) (ls : List B) : B := ls.flatMap (ln c false)
/-- an answer's bytes -/
def wr (x : Rep) : B := pend x.1 x.2.1.dropLast ++ ln x.1 true (x.2.1.getLastD [])
/-- may an answer be -/
def okR (x : Rep) : Bool := okC x.1 && decide (x.2.1 ≠ []) && decide (x.2.1.length ≤ 100) && x.2.1.all okT && decide (x.2.2 = enh x.1 (x.2.1.getLastD []))
theorem okR_iff {x : Rep} : okR x = true ↔ okC x.1 = true ∧ x.2.1 ≠ [] ∧ x.2.1.length ≤ 100 ∧ (∀ t ∈ x.2.1, okT t = true) ∧ x.2.2 = enh x.1 (x.2.1.getLastD []) := by
  unfold okR; simp [and_assoc]
theorem dec_code {c : Int} (h : okC c = true) : ∃ a b d : UInt8, Lib.decDigits c.toNat = [a, b, d] := by
  have := okC_iff.1 h
  exact ⟨_, _, _, dec3 (by omega) (by omega)⟩
theorem dec_len3 {c : Int} (h : okC c = true) : (Lib.decDigits c.toNat).length = 3 := by obtain ⟨a, b, d, e⟩ := dec_code h; rw [e]; rfl
/-- a line without 13 and 10 behind it -/
def rdP (p : B) : Option (Int × Bool × B) :=
  if (13 : UInt8) ∉ p ∧ 4 ≤ p.length ∧ p.length ≤ 510 then
    match nm (p.take 3) with
    | some n => if okC n = true ∧ (p[3]? = some 45 ∨ p[3]? = some 32) then some ((n : Int), decide (p[3]? = some 32), p.drop 4) else none
    | none => none
  else none
/-- a line without its 10 -/
def rdL (s : B) : Option (Int × Bool × B) := if s.getLast? = some 13 then rdP s.dropLast else none
theorem rdP_lb {c : Int} {last : Bool} {t : B} (hc : okC c = true) (h1 : t.length ≤ 506) (h2 : (13 : UInt8) ∉ t) : rdP (lb c last t) = some (c, last, t) := by
  obtain ⟨a, b, d, e⟩ := dec_code hc
  have h13 : (13 : UInt8) ∉ Lib.decDigits c.toNat := dec_no (by decide)
  have hn : nm (Lib.decDigits c.toNat) = some c.toNat := nm_dec (by have := okC_iff.1 hc; omega)
  have hcc : ((c.toNat : Nat) : Int) = c := by have := okC_iff.1 hc; omega
  unfold rdP lb
  rw [e] at h13 hn ⊢
  have hs : (13 : UInt8) ∉ [a, b, d] ++ sgn last :: t := by
    simp only [List.mem_append, List.mem_cons, not_or]
    simp only [List.mem_cons, not_or] at h13
    refine ⟨h13, by cases last <;> decide, h2⟩
  rw [if_pos ⟨hs, by simp, by simp; omega⟩]
  simp only [List.cons_append, List.nil_append, List.take_succ_cons, List.take_zero, hn, List.getElem?_cons_succ, List.getElem?_cons_zero, List.drop_succ_cons, List.drop_zero, hcc]
  rw [if_pos ⟨hc, by cases last <;> simp⟩]
  cases last <;> simp
theorem rdP_some {p : B} {x : Int × Bool × B} (h : rdP p = some x) : okC x.1 = true ∧ x.2.2.length ≤ 506 ∧ (13 : UInt8) ∉ x.2.2 ∧ p = lb x.1 x.2.1 x.2.2 := by
  unfold rdP at h
  split at h
  · rename_i h1
    obtain ⟨h13, h4, h5⟩ := h1
    cases hn : nm (p.take 3) with
    | none => rw [hn] at h; cases h
    | some n =>
      rw [hn] at h
      simp only [] at h
      split at h
      · rename_i h2
        obtain ⟨hc, h3⟩ := h2
        cases h
        obtain ⟨hn9, hp⟩ := nm_some hn
        refine ⟨hc, by simp; omega, fun e => h13 (List.mem_of_mem_drop e), ?_⟩
        unfold lb
        simp only [Int.toNat_natCast]
        rw [← hp]
        have hs : p[3]? = some (sgn (decide (p[3]? = some 32))) := by
          rcases h3 with h3 | h3 <;> rw [h3] <;> simp
        have hd : p.drop 3 = sgn (decide (p[3]? = some 32)) :: p.drop 4 := by
          obtain ⟨hl, he⟩ := List.getElem?_eq_some_iff.1 hs
          rw [List.drop_eq_getElem_cons hl, he]
        rw [← hd, List.take_append_drop]
      · cases h
  · cases h
theorem rdL_lb {c : Int} {last : Bool} {t : B} (hc : okC c = true) (h1 : t.length ≤ 506) (h2 : (13 : UInt8) ∉ t) : rdL (lb c last t ++ [13]) = some (c, last, t) := by
  unfold rdL
  rw [if_pos (by simp), List.dropLast_concat, rdP_lb hc h1 h2]
theorem rdL_some {s : B} {x : Int × Bool × B} (h : rdL s = some x) : okC x.1 = true ∧ x.2.2.length ≤ 506 ∧ (13 : UInt8) ∉ x.2.2 ∧ s = lb x.1 x.2.1 x.2.2 ++ [13] := by
  unfold rdL at h
  split at h
  · rename_i h1
    obtain ⟨h2, h3, h4, h5⟩ := rdP_some h
    refine ⟨h2, h3, h4, ?_⟩
    rw [← h5]
    obtain ⟨ys, hy⟩ := List.getLast?_eq_some_iff.1 h1
    rw [hy]; simp
  · cases h
theorem rdL_len {s : B} {x : Int × Bool × B} (h : rdL s = some x) : s.length ≤ 511 := by
  obtain ⟨h1, h2, h3, h4⟩ := rdL_some h
  have := dec_len3 h1
  rw [h4]; unfold lb; simp; omega
theorem rdL_long {s : B} (h : 512 ≤ s.length) : rdL s = none := by
  cases hr : rdL s with
  | none => rfl
  | some x => have := rdL_len hr; omega
/-! what is cut at 10 -/
def seg : B → B → List B × B
  | acc, [] => ([], acc)
  | acc, x :: t => if x = 10 then (acc :: (seg [] t).1, (seg [] t).2) else seg (acc ++ [x]) t
theorem seg_app : ∀ (p acc t : B), (10 : UInt8) ∉ p → seg acc (p ++ t) = seg (acc ++ p) t
  | [], acc, t, h => by simp
  | x :: p, acc, t, h => by
    have hx : x ≠ 10 := fun e => h (by simp [e])
    have hp : (10 : UInt8) ∉ p := fun e => h (by simp [e])
    rw [List.cons_append, seg, if_neg hx, seg_app p (acc ++ [x]) t hp]; simp
theorem seg_hit {p t : B} (h : (10 : UInt8) ∉ p) : seg [] (p ++ 10 :: t) = (p :: (seg [] t).1, (seg [] t).2) := by
  rw [seg_app p [] _ h, List.nil_append, seg, if_pos rfl]
theorem seg_none {p : B} (h : (10 : UInt8) ∉ p) : seg [] p = ([], p) := by
  have := seg_app p [] [] h
  rw [List.append_nil] at this
  rw [this]; rfl
theorem seg_join : ∀ (t acc u : B), seg acc (t ++ u) = ((seg acc t).1 ++ (seg (seg acc t).2 u).1, (seg (seg acc t).2 u).2)
  | [], acc, u => by simp [seg]
  | x :: t, acc, u => by
    rw [List.cons_append, seg, seg]
    split
    · rw [seg_join t [] u]; simp
    · exact seg_join t (acc ++ [x]) u
theorem seg_no : ∀ (t acc : B), (10 : UInt8) ∉ acc → (10 : UInt8) ∉ (seg acc t).2 ∧ ∀ a ∈ (seg acc t).1, (10 : UInt8) ∉ a
  | [], acc, h => ⟨h, by simp [seg]⟩
  | x :: t, acc, h => by
    rw [seg]
    split
    · have ih := seg_no t [] (by simp)
      refine ⟨ih.1, fun a ha => ?_⟩
      rcases List.mem_cons.1 ha with rfl | ha
      · exact h
      · exact ih.2 a ha
    · rename_i hx
      exact seg_no t (acc ++ [x]) (by simp only [List.mem_append, List.mem_singleton, not_or]; exact ⟨h, fun e => hx e.symm⟩)
theorem seg_back : ∀ (t acc : B), (seg acc t).1.flatMap (· ++ [10]) ++ (seg acc t).2 = acc ++ t
  | [], acc => by simp [seg]
  | x :: t, acc => by
    rw [seg]
    split
    · rename_i hx
      subst hx
      have ih := seg_back t []
      simp only [List.flatMap_cons, List.append_assoc] at ih ⊢
      rw [ih]; simp
    · rw [seg_back t (acc ++ [x])]; simp
/-- cut within a piece -/
theorem seg_mid {r u : B} (h : (10 : UInt8) ∉ r) : seg r u = seg [] (r ++ u) := by rw [seg_app r [] u h]; rfl
/-! answers of lines -/
def stepL (c : Int) (ls : List B) (x : Int × Bool × B) : Option (List Rep × Int × List B) :=
  if ls.length < 100 ∧ (ls = [] ∨ x.1 = c) then
    some (if x.2.1 then ([(x.1, ls ++ [x.2.2], enh x.1 x.2.2)], 0, []) else ([], x.1, ls ++ [x.2.2]))
  else none
def goL : Int → List B → List B → Option (Int × List B) × List Rep
  | c, ls, [] => (some (c, ls), [])
  | c, ls, a :: r => match rdL a with
    | none => (none, [])
    | some x => match stepL c ls x with
      | none => (none, [])
      | some o => ((goL o.2.1 o.2.2 r).1, o.1 ++ (goL o.2.1 o.2.2 r).2)
abbrev St := Int × List B × B
def fin (g : Option (Int × List B) × List Rep) (r : B) : Option St × List Rep :=
  match g.1 with
  | none => (none, g.2)
  | some q => if r.length < 512 then (some (q.1, q.2, r), g.2) else (none, g.2)
/-- what waits and what is told, of a text behind what waits -/
def run (c : Int) (ls : List B) (t : B) : Option St × List Rep := fin (goL c ls (seg [] t).1) (seg [] t).2
def put : Option St → B → Option St × List Rep
  | none, _ => (none, [])
  | some s, b => run s.1 s.2.1 (s.2.2 ++ b)
theorem run_none {c : Int} {ls : List B} {t : B} (h : (10 : UInt8) ∉ t) : run c ls t = if t.length < 512 then (some (c, ls, t), []) else (none, []) := by
  unfold run; rw [seg_none h]; rfl
theorem run_hit {c : Int} {ls : List B} {p t : B} (h : (10 : UInt8) ∉ p) : run c ls (p ++ 10 :: t) = match rdL p with
    | none => (none, [])
    | some x => match stepL c ls x with
      | none => (none, [])
      | some o => ((run o.2.1 o.2.2 t).1, o.1 ++ (run o.2.1 o.2.2 t).2) := by
  unfold run
  rw [seg_hit h]
  simp only [goL]
  cases rdL p with
  | none => rfl
  | some x =>
    simp only []
    cases stepL c ls x with
    | none => rfl
    | some o =>
      simp only [fin]
      cases (goL o.2.1 o.2.2 (seg [] t).1).1 with
      | none => rfl
      | some q => simp only []; split <;> rfl
/-- what is told goes on with what is told of the rest -/
theorem run_cut : ∀ (k : Nat) (t : B), t.length ≤ k → ∀ (c : Int) (ls : List B) (b : B), run c ls (t ++ b) = ((put (run c ls t).1 b).1, (run c ls t).2 ++ (put (run c ls t).1 b).2) := by
  intro k
  induction k with
  | zero =>
    intro t ht c ls b
    obtain rfl : t = [] := List.length_eq_zero_iff.1 (by omega)
    rw [show run c ls [] = (some (c, ls, []), []) from by rw [run_none (by simp), if_pos (by simp)]]; simp [put]
  | succ k ih =>
    intro t ht c ls b
    rcases cut_cases 10 t with h | ⟨p, r, rfl, h⟩
    · rw [run_none h]
      by_cases hl : t.length < 512
      · rw [if_pos hl]; simp [put]
      · rw [if_neg hl]
        simp only [put, List.append_nil]
        rcases cut_cases 10 b with hb | ⟨p, r, rfl, hp⟩
        · rw [run_none (by simp [h, hb]), if_neg (by simp; omega)]
        · rw [← List.append_assoc, run_hit (by simp [h, hp]), rdL_long (by simp; omega)]
    · rw [List.append_assoc, List.cons_append, run_hit h, run_hit h]
      cases rdL p with
      | none => rfl
      | some x =>
        simp only []
        cases stepL c ls x with
        | none => rfl
        | some o =>
          simp only []
          rw [ih r (by simp at ht; omega)]
          simp
theorem put_cut (s : Option St) (a b : B) : put s (a ++ b) = ((put (put s a).1 b).1, (put s a).2 ++ (put (put s a).1 b).2) := by
  cases s with
  | none => rfl
  | some s => simp only [put]; rw [← List.append_assoc, run_cut _ _ (Nat.le_refl _)]; rfl
/-! how many bytes wait -/
def sumL : List B → Nat
  | [] => 0
  | t :: r => 6 + t.length + sumL r
theorem sumL_app : ∀ a b : List B, sumL (a ++ b) = sumL a + sumL b
  | [], b => by simp [sumL]
  | t :: a, b => by rw [List.cons_append, sumL, sumL, sumL_app a b]; omega
def left : Option St → Nat
  | none => 0
  | some s => sumL s.2.1 + s.2.2.length
theorem left_zero {s : St} : left (some s) = 0 ↔ s.2.1 = [] ∧ s.2.2 = [] := by
  obtain ⟨c, ls, r⟩ := s
  cases ls with
  | nil => simp [left, sumL]
  | cons t l => simp [left, sumL]
theorem ln_len {c : Int} (h : okC c = true) (last : Bool) (t : B) : (ln c last t).length = 6 + t.length := by
  have := dec_len3 h
  unfold ln lb; simp; omega
theorem pend_len {c : Int} (h : okC c = true) : ∀ ls : List B, (pend c ls).length = sumL ls
  | [] => rfl
  | t :: l => by
    have := pend_len h l
    have h2 := ln_len h false t
    unfold pend at this ⊢
    rw [List.flatMap_cons, List.length_append, this, h2, sumL]
theorem pend_app (c : Int) (a b : List B) : pend c (a ++ b) = pend c a ++ pend c b := by unfold pend; simp
theorem pend_one (c : Int) (t : B) : pend c [t] = ln c false t := by unfold pend; simp
/-! what is read was written so -/
/-- what waits may wait -/
def okS (c : Int) (ls : List B) : Prop := ls.length ≤ 100 ∧ (∀ t ∈ ls, okT t = true) ∧ (ls ≠ [] → okC c = true)
theorem okS_nil (c : Int) : okS c [] := ⟨by simp, by simp, by simp⟩
theorem pend_c {c c' : Int} {ls : List B} (h : ls = [] ∨ c' = c) : pend c' ls = pend c ls := by
  rcases h with rfl | rfl <;> rfl
theorem ln_lb (c : Int) (last : Bool) (t : B) : lb c last t ++ [13] ++ [10] = ln c last t := by unfold ln; simp
theorem stepL_back {c : Int} {ls : List B} {x : Int × Bool × B} {o : List Rep × Int × List B} (h : stepL c ls x = some o) (hS : okS c ls) (hc : okC x.1 = true) (ht : okT x.2.2 = true) :
    okS o.2.1 o.2.2 ∧ (∀ r ∈ o.1, okR r = true) ∧ pend c ls ++ ln x.1 x.2.1 x.2.2 = o.1.flatMap wr ++ pend o.2.1 o.2.2 := by
  unfold stepL at h
  split at h
  · rename_i h1
    obtain ⟨h1, h2⟩ := h1
    cases h
    have hall : ∀ t ∈ ls ++ [x.2.2], okT t = true := fun t h => by
      rcases List.mem_append.1 h with h | h
      · exact hS.2.1 t h
      · simp only [List.mem_singleton] at h; subst h; exact ht
    cases hl : x.2.1 with
    | true =>
      simp only [if_true]
      refine ⟨okS_nil _, fun r hr => ?_, ?_⟩
      · simp only [List.mem_singleton] at hr; subst hr
        exact okR_iff.2 ⟨hc, by simp, by simp; omega, hall, by simp⟩
      · simp only [List.flatMap_cons, List.flatMap_nil, List.append_nil, wr, List.dropLast_concat, pend_c h2]
        simp [pend]
    | false =>
      simp only [Bool.false_eq_true, if_false]
      refine ⟨⟨by simp; omega, hall, fun _ => hc⟩, by simp, ?_⟩
      rw [pend_app, pend_one, pend_c h2]; simp
  · cases h
theorem run_back : ∀ (k : Nat) (t : B), t.length ≤ k → ∀ (c : Int) (ls : List B), okS c ls → (∀ r ∈ (run c ls t).2, okR r = true) ∧ ∀ s, (run c ls t).1 = some s →
    okS s.1 s.2.1 ∧ (10 : UInt8) ∉ s.2.2 ∧ s.2.2.length < 512 ∧ pend c ls ++ t = (run c ls t).2.flatMap wr ++ (pend s.1 s.2.1 ++ s.2.2) := by
  intro k
  induction k with
  | zero =>
    intro t ht c ls hS
    obtain rfl : t = [] := List.length_eq_zero_iff.1 (by omega)
    rw [run_none (by simp), if_pos (by simp)]
    refine ⟨by simp, fun s hs => ?_⟩
    cases hs
    exact ⟨hS, by simp, by simp, by simp⟩
  | succ k ih =>
    intro t ht c ls hS
    rcases cut_cases 10 t with h | ⟨p, r, rfl, h⟩
    · rw [run_none h]
      by_cases hl : t.length < 512
      · rw [if_pos hl]
        refine ⟨by simp, fun s hs => ?_⟩
        cases hs
        exact ⟨hS, h, hl, by simp⟩
      · rw [if_neg hl]
        exact ⟨by simp, fun s hs => by cases hs⟩
    · rw [run_hit h]
      cases hr : rdL p with
      | none => exact ⟨by simp, fun s hs => by cases hs⟩
      | some x =>
        simp only []
        obtain ⟨g1, g2, g3, g4⟩ := rdL_some hr
        have g5 : okT x.2.2 = true := okT_iff.2 ⟨g2, g3, fun e => h (by rw [g4]; simp [lb, e])⟩
        cases hs : stepL c ls x with
        | none => exact ⟨by simp, fun s hs => by cases hs⟩
        | some o =>
          simp only []
          obtain ⟨q1, q2, q3⟩ := stepL_back hs hS g1 g5
          obtain ⟨i1, i2⟩ := ih r (by simp at ht; omega) o.2.1 o.2.2 q1
          refine ⟨fun z hz => ?_, fun s hss => ?_⟩
          · rcases List.mem_append.1 hz with hz | hz
            · exact q2 z hz
            · exact i1 z hz
          · obtain ⟨j1, j2, j3, j4⟩ := i2 s hss
            refine ⟨j1, j2, j3, ?_⟩
            rw [List.flatMap_append, List.append_assoc, ← j4]
            have e : pend c ls ++ (p ++ 10 :: r) = (pend c ls ++ ln x.1 x.2.1 x.2.2) ++ r := by rw [g4]; simp [ln]
            rw [e, q3, List.append_assoc]
/-! what is written is read -/
theorem run_line {c0 c : Int} {ls : List B} {last : Bool} {t u : B} (h0 : ls.length < 100) (h1 : ls = [] ∨ c = c0) (hc : okC c = true) (ht : okT t = true) :
    run c0 ls (ln c last t ++ u) = if last then ((run 0 [] u).1, (c, ls ++ [t], enh c t) :: (run 0 [] u).2) else run c (ls ++ [t]) u := by
  obtain ⟨g1, g2, g3⟩ := okT_iff.1 ht
  have e : ln c last t ++ u = (lb c last t ++ [13]) ++ 10 :: u := by unfold ln; simp
  have h10 : (10 : UInt8) ∉ lb c last t ++ [13] := by
    have : (10 : UInt8) ∉ Lib.decDigits c.toNat := dec_no (by decide)
    unfold lb
    simp only [List.mem_append, List.mem_cons, not_or]
    exact ⟨⟨this, by cases last <;> decide, g3⟩, by decide, by simp⟩
  rw [e, run_hit h10, rdL_lb hc g1 g2]
  simp only [stepL]
  rw [if_pos ⟨h0, h1⟩]
  cases last <;> simp
theorem run_lines {c : Int} (hc : okC c = true) {t : B} (ht : okT t = true) (u : B) : ∀ (m : List B) (c0 : Int) (ls : List B), (ls = [] ∨ c = c0) → (∀ x ∈ m, okT x = true) → ls.length + m.length < 100 →
    run c0 ls (pend c m ++ (ln c true t ++ u)) = ((run 0 [] u).1, (c, ls ++ m ++ [t], enh c t) :: (run 0 [] u).2)
  | [], c0, ls, h1, hm, hl => by
    rw [show pend c [] = [] from rfl, List.nil_append, run_line (by simpa using hl) h1 hc ht]; simp
  | x :: m, c0, ls, h1, hm, hl => by
    have : pend c (x :: m) = ln c false x ++ pend c m := by unfold pend; simp
    rw [this, List.append_assoc, run_line (by simp at hl; omega) h1 hc (hm x (by simp))]
    simp only [Bool.false_eq_true, if_false]
    rw [run_lines hc ht u m c (ls ++ [x]) (Or.inr rfl) (fun y hy => hm y (by simp [hy])) (by simp at hl ⊢; omega)]
    simp
theorem run_wr {x : Rep} (h : okR x = true) (u : B) : run 0 [] (wr x ++ u) = ((run 0 [] u).1, x :: (run 0 [] u).2) := by
  obtain ⟨h1, h2, h3, h4, h5⟩ := okR_iff.1 h
  obtain ⟨c, ls, m⟩ := x
  simp only at h1 h2 h3 h4 h5
  have e := List.dropLast_concat_getLast h2
  have hg : ls.getLastD [] = ls.getLast h2 := by rw [List.getLastD_eq_getLast?, List.getLast?_eq_some_getLast h2]; rfl
  unfold wr
  simp only [hg, List.append_assoc]
  rw [run_lines h1 (h4 _ (List.getLast_mem h2)) u ls.dropLast 0 [] (Or.inl rfl) (fun y hy => h4 y (List.dropLast_subset _ hy)) (by have := List.length_pos_iff.2 h2; simp; omega)]
  rw [List.nil_append, e, h5, hg]
theorem run_wrs : ∀ l : List Rep, (∀ x ∈ l, okR x = true) → run 0 [] (l.flatMap wr) = (some (0, [], []), l)
  | [], h => by rw [List.flatMap_nil, run_none (by simp)]; rfl
  | x :: l, h => by
    rw [List.flatMap_cons, run_wr (h x (by simp)), run_wrs l (fun y hy => h y (by simp [hy]))]
/-! what Read answers -/
def rdE (b : B) : Int := if ∃ s, (run 0 [] b).1 = some s ∧ left (some s) = 0 then 0 else 2
def rdR (b : B) : List Rep := if rdE b = 0 then (run 0 [] b).2 else []
end Go.Proofs.YtdfmnjoklehifaaDoor.Bk.Rp
