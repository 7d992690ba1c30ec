import Derived.Test.YtjlpkgipdkjfhaaGreatDoorMb
import Derived.Test.YtjlpkgipdkjfhaaGreatDoorPa
import Derived.Test.YtjlpkgipdkjfhaaGreatDoorEa
import Derived.Test.YtjlpkgipdkjfhaaGreatDoorPb
import Derived.Test.YtjlpkgipdkjfhaaGreatDoorPd
import Derived.Test.YtjlpkgipdkjfhaaGreatDoorEc
import Derived.Deep.RegionHeld3
import Derived.Laws.EntriesVeiled
set_option linter.unusedVariables false
set_option linter.unusedSimpArgs false
namespace Go.Proofs.YtjlpkgipdkjfhaaGreatDoor.Dg
open Bk
open Bx (B)
open En (enc encC enc_len tr gone)
open Pl (wrp ofP pcs)
open Hd (Hdr lnA okA okH cutA)
open Pt (joined b0 kd isD vl)
def clo : B := [64, 109, 97, 105, 108, 99, 111, 97, 99, 104, 62]
def idT (no sub : Nat) : B := 60 :: (Lib.decDigits no ++ 46 :: (Lib.decDigits sub ++ clo))
def okI (sub no : Int) : Bool := decide (0 ≤ sub ∧ sub < 8 ∧ 1 ≤ no ∧ no ≤ 1073741824)
theorem isD_lt {c : UInt8} (h : isD c = true) : 48 ≤ c.toNat ∧ c.toNat ≤ 57 := by
  unfold isD at h
  simpa using h
theorem idx_one (c : UInt8) (r : B) : ∀ x : B, c ∉ x → Lib.index (x ++ c :: r) [c] = x.length
  | [], _ => by rw [List.nil_append, Lib.index, if_pos (by simp)]; rfl
  | d :: x, h => by
    have hd : ¬ c = d := fun e => h (by rw [e]; simp)
    have ih := idx_one c r x (fun e => h (List.mem_cons_of_mem _ e))
    rw [List.cons_append, Hd.idx_miss (by simp [List.isPrefixOf, hd]), ih, if_neg (by omega), List.length_cons]
    omega
theorem idx_none (c : UInt8) : ∀ x : B, c ∉ x → Lib.index x [c] = -1
  | [], _ => rfl
  | d :: x, h => by
    have hd : ¬ c = d := fun e => h (by rw [e]; simp)
    have ih := idx_none c x (fun e => h (List.mem_cons_of_mem _ e))
    rw [Hd.idx_miss (by simp [List.isPrefixOf, hd]), ih, if_pos rfl]
theorem cut_one (c : UInt8) (r x : B) (h : c ∉ x) : Lib.cut (x ++ c :: r) [c] = (x, r, true) := by
  unfold Lib.cut
  rw [idx_one c r x h, if_pos (by omega)]
  simp
theorem cut_none (c : UInt8) (x : B) (h : c ∉ x) : Lib.cut x [c] = (x, [], false) := by
  unfold Lib.cut
  rw [idx_none c x h, if_neg (by omega)]
theorem cut_has (c : UInt8) : ∀ s : B, c ∈ s → ∃ x r, s = x ++ c :: r ∧ c ∉ x
  | [], h => by cases h
  | d :: s, h => by
    by_cases hd : c = d
    · exact ⟨[], s, by rw [hd]; rfl, by simp⟩
    · rcases List.mem_cons.1 h with e | h
      · exact absurd e hd
      · obtain ⟨x, r, h1, h2⟩ := cut_has c s h
        exact ⟨d :: x, r, by rw [h1]; rfl, fun e => (List.mem_cons.1 e).elim hd h2⟩
theorem dec_no {n : Nat} {c : UInt8} (h : isD c = false) : c ∉ Lib.decDigits n := fun e => by
  have := Pt.dec_is n c e
  rw [h] at this; cases this
def gueA (s : B) : B := (Lib.cut (Lib.trimPrefix s [60]) [46]).1
def gueZ (s : B) : B := Lib.trimSuffix (Lib.cut (Lib.trimPrefix s [60]) [46]).2.1 clo
theorem gue_id (no sub : Nat) : gueA (idT no sub) = Lib.decDigits no ∧ gueZ (idT no sub) = Lib.decDigits sub := by
  have h1 : Lib.trimPrefix (idT no sub) [60] = Lib.decDigits no ++ 46 :: (Lib.decDigits sub ++ clo) := Pt.trim_pre [60] _
  unfold gueA gueZ
  rw [h1, cut_one 46 _ _ (dec_no (by decide))]
  exact ⟨rfl, Pt.trim_suf clo _⟩
theorem id_inj {a b c d : Nat} (h : idT a b = idT c d) : a = c ∧ b = d := by
  have h1 := gue_id a b
  rw [h] at h1
  obtain ⟨h2, h3⟩ := gue_id c d
  rw [h2, h3] at h1
  exact ⟨Pt.dec_inj h1.1.symm, Pt.dec_inj h1.2.symm⟩
def Id1 (s : B) (q : Nat × Nat) : Prop := (q.1 < 8 ∧ 1 ≤ q.2 ∧ q.2 ≤ 1073741824) ∧ s = idT q.2 q.1
open Classical in
noncomputable def psR (s : B) : Int × Int × Int := if h : ∃ q, Id1 s q then (((Classical.choose h).1 : Nat), ((Classical.choose h).2 : Nat), 0) else (0, 0, 2)
theorem ps_yes {no sub : Nat} (h1 : sub < 8) (h2 : 1 ≤ no) (h3 : no ≤ 1073741824) : psR (idT no sub) = ((sub : Int), (no : Int), 0) := by
  have h : ∃ q, Id1 (idT no sub) q := ⟨(sub, no), ⟨h1, h2, h3⟩, rfl⟩
  unfold psR
  rw [dif_pos h]
  obtain ⟨_, e⟩ := Classical.choose_spec h
  obtain ⟨e1, e2⟩ := id_inj e
  rw [← e1, ← e2]
theorem ps_no {s : B} (h : ∀ sub no : Nat, sub < 8 → 1 ≤ no → no ≤ 1073741824 → s ≠ idT no sub) : psR s = (0, 0, 2) := by
  unfold psR
  rw [dif_neg]
  rintro ⟨q, ⟨h1, h2, h3⟩, e⟩
  exact h _ _ h1 h2 h3 e
def idR (sub no : Int) : B × Int := if okI sub no = true then (idT no.toNat sub.toNat, 0) else ([], 1)
theorem okI_iff {sub no : Int} : okI sub no = true ↔ 0 ≤ sub ∧ sub < 8 ∧ 1 ≤ no ∧ no ≤ 1073741824 := by unfold okI; rw [decide_eq_true_eq]
theorem idR_yes {sub no : Int} (h : okI sub no = true) : idR sub no = (idT no.toNat sub.toNat, 0) := by unfold idR; rw [if_pos h]
theorem idR_no {sub no : Int} (h : ¬ okI sub no = true) : idR sub no = ([], 1) := by unfold idR; rw [if_neg h]
theorem ps_of {s : B} {x y : Int} (h : ∀ no sub : Nat, no ≤ 1073741824 → sub < 8 → s = idT no sub → x = sub ∧ y = no) :
    psR s = if okI x y = true ∧ idT y.toNat x.toNat = s then (x, y, 0) else (0, 0, 2) := by
  by_cases hc : okI x y = true ∧ idT y.toNat x.toNat = s
  · rw [if_pos hc, ← hc.2]
    obtain ⟨h1, h2, h3, h4⟩ := okI_iff.1 hc.1
    rw [ps_yes (by omega) (by omega) (by omega), Int.toNat_of_nonneg h1, Int.toNat_of_nonneg (by omega)]
  · rw [if_neg hc]
    refine ps_no fun sub no h1 h2 h3 e => hc ?_
    obtain ⟨e1, e2⟩ := h no sub h3 h1 e
    exact ⟨okI_iff.2 ⟨by omega, by omega, by omega, by omega⟩, by rw [e1, e2, e]; rfl⟩
theorem dec_le10 : ∀ (k n : Nat), n < 10 ^ (k + 1) → (Lib.decDigits n).length ≤ k + 1
  | 0, n, h => by rw [Lib.decDigits_one (by simpa using h)]; simp
  | k + 1, n, h => by
    by_cases h10 : n < 10
    · rw [Lib.decDigits_one h10]; simp
    · have := dec_le10 k (n / 10) (by rw [Nat.pow_succ] at h; omega)
      rw [Lib.decDigits, dif_neg h10]; simp; omega
theorem id_len {no sub : Nat} (h1 : no ≤ 1073741824) (h2 : sub < 8) : (idT no sub).length ≤ 40 := by
  have h3 := dec_le10 9 no (by omega)
  have h4 := dec_le10 0 sub (by omega)
  unfold idT clo
  simp only [List.length_cons, List.length_append, List.length_nil]
  omega
def rdg : Nat → B → Nat × Nat
  | n, [] => (n, 0)
  | n, c :: r => if isD c = true ∧ n ≤ 1073741824 then ((rdg (10 * n + (c.toNat - 48)) r).1, (rdg (10 * n + (c.toNat - 48)) r).2 + 1) else (n, 0)
theorem vl_ge : ∀ (l : B) (n : Nat), n ≤ vl n l
  | [], n => Nat.le_refl _
  | c :: l, n => by
    have := vl_ge l (n * 10 + (c.toNat - 48))
    show n ≤ vl (n * 10 + (c.toNat - 48)) l
    omega
theorem rdg_vl (c : UInt8) (r : B) (hc : isD c = false) : ∀ (q : B) (n : Nat), (∀ x ∈ q, isD x = true) → vl n q ≤ 1073741824 → rdg n (q ++ c :: r) = (vl n q, q.length)
  | [], n, _, _ => by rw [List.nil_append, rdg, if_neg (by simp [hc])]; rfl
  | x :: q, n, h, hv => by
    have hx := h x (by simp)
    have h0 := vl_ge (x :: q) n
    have ih := rdg_vl c r hc q (10 * n + (x.toNat - 48)) (fun y hy => h y (List.mem_cons_of_mem _ hy)) (by rw [Nat.mul_comm]; exact hv)
    rw [List.cons_append, rdg, if_pos ⟨hx, by omega⟩, ih, List.length_cons, Nat.mul_comm 10 n]
    rfl
theorem rdg_id {no : Nat} (h : no ≤ 1073741824) (c : UInt8) (r : B) (hc : isD c = false) : rdg 0 (Lib.decDigits no ++ c :: r) = (no, (Lib.decDigits no).length) := by
  have h1 := (Pt.dec_val no no (Nat.le_refl _)).1
  rw [rdg_vl c r hc _ 0 (Pt.dec_is no) (by omega), h1]
theorem rdg_bd : ∀ (l : B) (n : Nat), n ≤ 10737418249 → (rdg n l).1 ≤ 10737418249 ∧ (rdg n l).2 ≤ l.length
  | [], n, h => ⟨h, Nat.le_refl _⟩
  | c :: l, n, h => by
    rw [rdg]
    split
    · rename_i hc
      have h1 := isD_lt hc.1
      have := rdg_bd l (10 * n + (c.toNat - 48)) (by omega)
      simp only [List.length_cons]
      omega
    · exact ⟨h, Nat.zero_le _⟩
def nmC (c : UInt8) : Bool := decide (c = 46 ∨ c = 45 ∨ c = 95 ∨ c = 43) || (decide (97 ≤ c.toNat ∧ c.toNat ≤ 122) || (decide (65 ≤ c.toNat ∧ c.toNat ≤ 90) || decide (48 ≤ c.toNat ∧ c.toNat ≤ 57)))
def nmS (s : B) : Bool := s.all nmC && !s.isEmpty
def adr (s : B) : Bool := (nmS (Lib.cut s [64]).1 && nmS (Lib.cut s [64]).2.1) && decide (s.length ≤ 60)
def adD (s : B) : Bool := (s.all fun c => c == 64 || nmC c) && decide (¬ s.head? = some 64 ∧ ¬ s.getLast? = some 64 ∧ s.count 64 = 1 ∧ 3 ≤ s.length ∧ s.length ≤ 60)
theorem nm_64 {s : B} (h : s.all nmC = true) : (64 : UInt8) ∉ s := fun e => by
  have := List.all_eq_true.1 h _ e
  revert this; decide
theorem nmS_iff {s : B} : nmS s = true ↔ s.all nmC = true ∧ s ≠ [] := by
  unfold nmS
  rw [Bool.and_eq_true]
  refine and_congr Iff.rfl ?_
  cases s <;> simp
theorem all_nm {s : B} (h : (s.all fun c => c == 64 || nmC c) = true) (h2 : (64 : UInt8) ∉ s) : s.all nmC = true := by
  rw [List.all_eq_true] at h ⊢
  intro c hc
  have := h c hc
  rw [Bool.or_eq_true] at this
  rcases this with e | e
  · rw [beq_iff_eq] at e; subst e; exact absurd hc h2
  · exact e
theorem all_of {s : B} (h : s.all nmC = true) : (s.all fun c => c == 64 || nmC c) = true := by
  rw [List.all_eq_true] at h ⊢
  intro c hc
  rw [h c hc, Bool.or_true]
theorem adr_D (s : B) : adr s = adD s := by
  by_cases hm : (64 : UInt8) ∈ s
  · obtain ⟨x, r, rfl, hx⟩ := cut_has 64 s hm
    unfold adr adD
    rw [cut_one 64 r x hx, Bool.eq_iff_iff, Bool.and_eq_true, Bool.and_eq_true, Bool.and_eq_true, decide_eq_true_eq, decide_eq_true_eq, nmS_iff, nmS_iff]
    have hcx : x.count 64 = 0 := List.count_eq_zero.2 hx
    have hc : (x ++ 64 :: r).count 64 = r.count 64 + 1 := by rw [List.count_append, hcx]; simp
    rw [hc, List.all_append, List.all_cons, Bool.and_eq_true, Bool.and_eq_true]
    have hl : (x ++ 64 :: r).length = x.length + r.length + 1 := by simp; omega
    rw [hl]
    constructor
    · rintro ⟨⟨⟨h1, h2⟩, h3, h4⟩, h5⟩
      have h6 : r.count 64 = 0 := List.count_eq_zero.2 (nm_64 h3)
      have hxl : 1 ≤ x.length := by cases x with | nil => exact absurd rfl h2 | cons => simp
      have hrl : 1 ≤ r.length := by cases r with | nil => exact absurd rfl h4 | cons => simp
      refine ⟨⟨all_of h1, by simp, all_of h3⟩, ?_, ?_, by omega, by omega, h5⟩
      · cases x with
        | nil => exact absurd rfl h2
        | cons a x => intro e; injection e with e; exact hx (by rw [← e]; simp)
      · intro e
        cases r with
        | nil => exact absurd rfl h4
        | cons a r =>
          have hr : (x ++ 64 :: a :: r).getLast? = (a :: r).getLast? := by
            rw [show x ++ 64 :: a :: r = (x ++ [64]) ++ (a :: r) by simp, List.getLast?_append]
            cases hq : (a :: r).getLast? with
            | none => simp at hq
            | some z => rfl
          rw [hr] at e
          exact nm_64 h3 (List.mem_of_getLast? e)
    · rintro ⟨⟨h1, _, h3⟩, h4, h5, h6, h7, h8⟩
      have hr0 : (64 : UInt8) ∉ r := List.count_eq_zero.1 (by omega)
      refine ⟨⟨⟨all_nm h1 hx, ?_⟩, all_nm h3 hr0, ?_⟩, h8⟩
      · rintro rfl; exact h4 rfl
      · rintro rfl; exact h5 (by simp)
  · unfold adr adD
    rw [cut_none 64 s hm]
    have h0 : s.count 64 = 0 := List.count_eq_zero.2 hm
    simp [nmS, h0]
theorem adr_len {s : B} (h : adr s = true) : s.length ≤ 60 := by
  unfold adr at h
  rw [Bool.and_eq_true, decide_eq_true_eq] at h
  exact h.2
structure It where
  feed : Int
  seq : Int
  id : B
  title : B
  link : B
  text : B
  at' : Int
def unT : B := [40, 117, 110, 116, 105, 116, 108, 101, 100, 41]
def tl (t : B) : B := if t = [] then unT else t
def lnE (l : List B) : B := l.flatMap (· ++ [10])
def linkT (s : B) : B := if s = [] then [] else s ++ [10]
def bodyT (s : B) : B := if ofP s = [] then [] else lnE (wrp 72 (ofP s))
def par (x : It) : B := lnE (wrp 72 (tl x.title)) ++ (linkT x.link ++ (bodyT x.text ++ [10]))
def txt (l : List It) : B := l.flatMap par
def liA : B := [60, 108, 105, 62, 60, 97, 32, 104, 114, 101, 102, 61, 34]
def liB : B := [34, 62]
def liC : B := [60, 47, 97, 62, 60, 47, 108, 105, 62, 10]
def ulA : B := [60, 117, 108, 62, 10]
def ulB : B := [60, 47, 117, 108, 62, 10]
def li (x : It) : B := liA ++ (enc x.link ++ (liB ++ (enc (tl x.title) ++ liC)))
def htm (l : List It) : B := ulA ++ (l.flatMap li ++ ulB)
def parL (x : It) : List B := wrp 72 (tl x.title) ++ ((if x.link = [] then [] else [x.link]) ++ ((if ofP x.text = [] then [] else wrp 72 (ofP x.text)) ++ [[]]))
theorem lnE_app (a b : List B) : lnE (a ++ b) = lnE a ++ lnE b := by unfold lnE; rw [List.flatMap_append]
theorem join_lines : ∀ (l : List B), Lib.join (l ++ [[]]) [10] = lnE l
  | [] => by simp [Lib.join, List.intercalate, lnE]
  | x :: l => by
    have ih := join_lines l
    obtain ⟨y, m, hm⟩ : ∃ y m, l ++ [[]] = y :: m := by cases l <;> simp
    have hj : Lib.join (x :: y :: m) [10] = x ++ ([10] ++ Lib.join (y :: m) [10]) := by simp [Lib.join, List.intercalate, List.intersperse]
    rw [List.cons_append, hm, hj, ← hm, ih]
    show _ = (x ++ [10]) ++ lnE l
    rw [List.append_assoc]
theorem par_join (x : It) : Lib.join (parL x) [10] ++ [10] = par x := by
  have h : parL x = (wrp 72 (tl x.title) ++ ((if x.link = [] then [] else [x.link]) ++ (if ofP x.text = [] then [] else wrp 72 (ofP x.text)))) ++ [[]] := by
    unfold parL; simp only [List.append_assoc]
  rw [h, join_lines, lnE_app, lnE_app]
  unfold par linkT bodyT
  have h1 : lnE (if x.link = [] then [] else [x.link]) = if x.link = [] then [] else x.link ++ [10] := by split <;> simp [lnE]
  have h2 : lnE (if ofP x.text = [] then [] else wrp 72 (ofP x.text)) = if ofP x.text = [] then [] else lnE (wrp 72 (ofP x.text)) := by split <;> simp [lnE]
  rw [h1, h2]
  simp only [List.append_assoc]
theorem lnE_cons (x : B) (l : List B) : lnE (x :: l) = x ++ 10 :: lnE l := by unfold lnE; simp
theorem fil_lnE (most : Int) : ∀ (ws : List B) (made : B), (lnE (Pl.fil most ws made)).length ≤ made.length + 1 + (lnE ws).length
  | [], made => by rw [Pl.fil, lnE_cons]; simp [lnE]
  | w :: ws, made => by
    rw [Pl.fil, lnE_cons w ws]
    split
    · have := fil_lnE most ws w
      rw [lnE_cons]
      simp only [List.length_append, List.length_cons]; omega
    · split
      · rename_i _ h
        have := fil_lnE most ws w
        simp only [List.length_append, List.length_cons]; omega
      · have := fil_lnE most ws (made ++ [32] ++ w)
        simp only [List.length_append, List.length_cons, List.length_nil] at this ⊢; omega
theorem splt_lnE (c : UInt8) : ∀ s : B, (lnE (Pl.splt c s)).length ≤ s.length + 1
  | [] => by simp [Pl.splt, lnE]
  | d :: s => by
    have ih := splt_lnE c s
    have hk : ∀ l : List B, lnE l = l.flatMap (· ++ [10]) := fun l => rfl
    rw [Pl.splt]
    split
    · rw [lnE_cons]
      simp only [List.length_append, List.length_cons, List.length_nil]; omega
    · split
      · simp [lnE]
      · rename_i x r hx
        rw [hx, lnE_cons] at ih
        rw [lnE_cons]
        simp only [List.length_append, List.length_cons] at ih ⊢; omega
theorem wds_lnE (s : B) : (lnE (Pl.wds s)).length ≤ s.length + 1 := by
  unfold Pl.wds
  split
  · simp [lnE]
  · have h1 := splt_lnE 32 (tr s)
    have h2 := Pl.tr_le s
    omega
theorem flat_lnE (most : Int) : ∀ l : List B, (lnE (l.flatMap fun x => Pl.fil most (Pl.wds x) [])).length ≤ 2 * (lnE l).length
  | [] => by simp [lnE]
  | x :: l => by
    have h1 := flat_lnE most l
    have h2 := fil_lnE most (Pl.wds x) []
    have h3 := wds_lnE x
    rw [List.flatMap_cons, lnE_app, lnE_cons]
    simp only [List.length_append, List.length_cons, List.length_nil] at h2 ⊢; omega
theorem wrp_lnE (most : Int) (s : B) : (lnE (wrp most s)).length ≤ 2 * s.length + 2 := by
  unfold wrp
  split
  · simp [lnE]
  · have h1 := flat_lnE most (Pl.splt 10 s)
    have h2 := splt_lnE 10 s
    omega
theorem lnE_len (l : List B) : l.length ≤ (lnE l).length ∧ ∀ x ∈ l, x.length ≤ (lnE l).length := by
  induction l with
  | nil => simp
  | cons x l ih =>
    rw [lnE_cons]
    simp only [List.length_cons, List.length_append, List.mem_cons, forall_eq_or_imp]
    refine ⟨by omega, by omega, fun y hy => ?_⟩
    have := ih.2 y hy
    omega
theorem wrp_num (most : Int) (s : B) : (wrp most s).length ≤ 2 * s.length + 2 := Nat.le_trans (lnE_len _).1 (wrp_lnE most s)
theorem pc_sum : ∀ (n : Nat) (cur l : B), l.length ≤ n → (lnE (Pl.pc cur l)).length ≤ cur.length + l.length + 1 := by
  intro n
  induction n with
  | zero =>
    intro cur l h
    obtain rfl : l = [] := by simpa using h
    rw [Pl.pc_nil]; simp [lnE]
  | succ n ih =>
    intro cur l h
    cases l with
    | nil => rw [Pl.pc_nil]; simp [lnE]
    | cons c r =>
      have hr : r.length ≤ n := by simpa using h
      have hs := Pl.rst_len r
      rw [Pl.pc_cons, List.length_cons]
      split
      · split
        · have h1 := ih [] (Pl.rst r) (by omega)
          rw [lnE_cons]
          simp only [List.length_append, List.length_cons, List.length_nil] at h1 ⊢; omega
        · have h1 := ih cur (Pl.rst r) (by omega); omega
      · have h1 := ih (cur ++ [c]) r hr
        simp only [List.length_append, List.length_cons, List.length_nil] at h1; omega
theorem fold_sum : ∀ (ts : List B) (acc : B), (ts.foldl Pl.addL acc).length ≤ acc.length + (lnE ts).length
  | [], acc => by simp [lnE]
  | t :: ts, acc => by
    have h1 := Pl.addL_len acc t
    have h2 := fold_sum ts (Pl.addL acc t)
    rw [List.foldl_cons, lnE_cons]
    simp only [List.length_append, List.length_cons]; omega
theorem lin_sum : ∀ l : List B, (lnE (l.map Pl.lin)).length ≤ 2 * (lnE l).length
  | [] => by simp [lnE]
  | p :: l => by
    have h1 := lin_sum l
    have h2 := Pl.lin_len p
    rw [List.map_cons, lnE_cons, lnE_cons]
    simp only [List.length_append, List.length_cons]; omega
theorem ofP_len (s : B) : (ofP s).length ≤ 2 * s.length + 2 := by
  have h1 := fold_sum ((pcs s).map Pl.lin) []
  have h2 := lin_sum (pcs s)
  have h3 := pc_sum _ [] s (Nat.le_refl _)
  unfold ofP
  simp only [List.length_nil] at h1 h3
  have : (lnE (pcs s)).length ≤ 0 + s.length + 1 := h3
  omega
theorem tl_len (t : B) : (tl t).length ≤ t.length + 10 := by unfold tl; split <;> simp [unT]
theorem linkT_len (s : B) : (linkT s).length ≤ s.length + 1 := by unfold linkT; split <;> simp
theorem bodyT_len (s : B) : (bodyT s).length ≤ 4 * s.length + 6 := by
  unfold bodyT
  split
  · simp
  · have h1 := wrp_lnE 72 (ofP s)
    have h2 := ofP_len s
    omega
theorem par_len (x : It) : (par x).length ≤ 2 * x.title.length + x.link.length + 4 * x.text.length + 30 := by
  have h1 := wrp_lnE 72 (tl x.title)
  have h2 := tl_len x.title
  have h3 := linkT_len x.link
  have h4 := bodyT_len x.text
  unfold par
  simp only [List.length_append, List.length_cons, List.length_nil]; omega
theorem li_len (x : It) : (li x).length ≤ 6 * x.title.length + 6 * x.link.length + 85 := by
  have h1 := enc_len x.link
  have h2 := enc_len (tl x.title)
  have h3 := tl_len x.title
  unfold li liA liB liC
  simp only [List.length_append, List.length_cons, List.length_nil]; omega
def size : List It → Nat
  | [] => 0
  | x :: l => x.title.length + x.link.length + x.text.length + size l
theorem txt_len : ∀ l : List It, (txt l).length ≤ 4 * size l + 30 * l.length
  | [] => by simp [txt]
  | x :: l => by
    have h1 := txt_len l
    have h2 := par_len x
    show (par x ++ txt l).length ≤ _
    rw [List.length_append, size, List.length_cons]; omega
theorem lis_len : ∀ l : List It, (l.flatMap li).length ≤ 6 * size l + 85 * l.length
  | [] => by simp
  | x :: l => by
    have h1 := lis_len l
    have h2 := li_len x
    rw [List.flatMap_cons, List.length_append, size, List.length_cons]; omega
theorem htm_len (l : List It) : (htm l).length ≤ 6 * size l + 85 * l.length + 11 := by
  have := lis_len l
  unfold htm ulA ulB
  simp only [List.length_append, List.length_cons, List.length_nil]; omega
theorem size_take {l : List It} {i : Nat} {x : It} (h : l[i]? = some x) : x.title.length ≤ size l ∧ x.link.length ≤ size l ∧ x.text.length ≤ size l := by
  induction l generalizing i with
  | nil => simp at h
  | cons y l ih =>
    cases i with
    | zero => simp at h; subst h; rw [size]; omega
    | succ i => have := ih (by simpa using h); rw [size]; omega
theorem flat_take (f : It → B) {l : List It} {i : Nat} {x : It} (h : l[i]? = some x) : (l.take (i + 1)).flatMap f = (l.take i).flatMap f ++ f x := by
  rw [List.take_add_one, h, List.flatMap_append]; simp
theorem flat_part (f : It → B) (l : List It) (i : Nat) : ((l.take i).flatMap f).length ≤ (l.flatMap f).length := by
  conv => rhs; rw [← List.take_append_drop i l, List.flatMap_append, List.length_append]
  omega
def fromN : B := [70, 114, 111, 109]
def fromT : B := [100, 105, 103, 101, 115, 116, 64, 109, 97, 105, 108, 99, 111, 97, 99, 104]
def toN : B := [84, 111]
def sbN : B := [83, 117, 98, 106, 101, 99, 116]
def dtN : B := [68, 97, 116, 101]
def idN : B := [77, 101, 115, 115, 97, 103, 101, 45, 73, 68]
def mvN : B := [77, 73, 77, 69, 45, 86, 101, 114, 115, 105, 111, 110]
def mvT : B := [49, 46, 48]
def ctN : B := [67, 111, 110, 116, 101, 110, 116, 45, 84, 121, 112, 101]
def ctT : B := [109, 117, 108, 116, 105, 112, 97, 114, 116, 47, 97, 108, 116, 101, 114, 110, 97, 116, 105, 118, 101, 59, 32, 98, 111, 117, 110, 100, 97, 114, 121, 61, 34]
def kT : B := [116, 101, 120, 116, 47, 112, 108, 97, 105, 110, 59, 32, 99, 104, 97, 114, 115, 101, 116, 61, 117, 116, 102, 45, 56]
def kH : B := [116, 101, 120, 116, 47, 104, 116, 109, 108, 59, 32, 99, 104, 97, 114, 115, 101, 116, 61, 117, 116, 102, 45, 56]
def dgW : B := [68, 105, 103, 101, 115, 116, 32]
def enP : B := [32, 101, 110, 116, 114, 105, 101, 115]
def enS : B := [32, 101, 110, 116, 114, 121]
def noun (n : Nat) : B := if n = 1 then enS else enP
def sbj (no n : Nat) : B := dgW ++ (Lib.decDigits no ++ ([58, 32] ++ (Lib.decDigits n ++ noun n)))
def ct7 : B := ctT ++ (b0 ++ [34])
def hd7 (rcp : B) (sub no : Nat) (date : B) (n : Nat) : List Hdr := [(fromN, fromT), (toN, rcp), (sbN, sbj no n), (dtN, date), (idN, idT no sub), (mvN, mvT), (ctN, ct7)]
def two (l : List It) : List (B × B) := [(kT, txt l), (kH, htm l)]
def mail (rcp : B) (sub no : Nat) (date : B) (l : List It) : B := lnA (hd7 rcp sub no date l.length) ++ joined (two l)
theorem okP_two (l : List It) : Pt.okP (two l) = true := Pt.okP_iff.2 ⟨by simp [two], by
  intro x hx
  simp only [two, List.mem_cons, List.not_mem_nil, or_false] at hx
  rcases hx with rfl | rfl
  · exact (by decide +kernel : kd kT = true)
  · exact (by decide +kernel : kd kH = true)⟩
theorem hd7_ok {rcp : B} {sub no : Nat} {date : B} {n : Nat} (h1 : rcp.length ≤ 60) (h2 : sub < 8) (h3 : no ≤ 1073741824) (h4 : date.length ≤ 4000) (h5 : n ≤ 1000000000000) : okA (hd7 rcp sub no date n) = true := by
  have h6 := id_len h3 h2
  have h7 := dec_le10 9 no (by omega)
  have h8 := dec_le10 13 n (by omega)
  have h9 : (sbj no n).length ≤ 4000 := by
    unfold sbj noun dgW enS enP
    simp only [List.length_append, List.length_cons, List.length_nil]
    split <;> simp <;> omega
  have hn : ∀ x ∈ [fromN, toN, sbN, dtN, idN, mvN, ctN], Hd.nam x = true := by decide +kernel
  have hk : ∀ x ∈ hd7 rcp sub no date n, okH x = true := by
    intro x hx
    simp only [hd7, List.mem_cons, List.not_mem_nil, or_false] at hx
    rcases hx with rfl | rfl | rfl | rfl | rfl | rfl | rfl <;> (unfold okH; rw [Bool.and_eq_true, decide_eq_true_eq]; refine ⟨hn _ (by simp), ?_⟩)
    · decide +kernel
    · show rcp.length ≤ 4000; omega
    · exact h9
    · exact h4
    · show (idT no sub).length ≤ 4000; omega
    · decide +kernel
    · decide +kernel
  unfold okA
  rw [Bool.and_eq_true, List.all_eq_true]
  exact ⟨hk, by simp [hd7]⟩
theorem mail_cut {rcp : B} {sub no : Nat} {date : B} {l : List It} (h : okA (hd7 rcp sub no date l.length) = true) : cutA (mail rcp sub no date l) = some (hd7 rcp sub no date l.length, joined (two l)) := Hd.cutA_iff.2 ⟨h, rfl⟩
theorem two_spl (l : List It) : Pt.spl (joined (two l)) b0 = some (two l) := Pt.spl_iff.2 ⟨okP_two l, rfl, rfl⟩
theorem enc_60 (s : B) : (enc s).count 60 = 0 := by
  rw [List.count_eq_zero]
  intro h
  unfold enc at h
  obtain ⟨c, _, hc⟩ := List.mem_flatMap.1 h
  unfold encC at hc
  repeat' split at hc
  all_goals first | (revert hc; decide) | (simp at hc; rename_i h1 _ _; exact h1 hc.symm) | (simp at hc; omega)
theorem li_60 (x : It) : (li x).count 60 = 4 := by
  unfold li
  simp only [List.count_append, enc_60]
  decide
theorem lis_60 : ∀ l : List It, (l.flatMap li).count 60 = 4 * l.length
  | [] => rfl
  | x :: l => by rw [List.flatMap_cons, List.count_append, li_60, lis_60 l, List.length_cons]; omega
theorem htm_60 (l : List It) : (htm l).count 60 = 2 + 4 * l.length := by
  unfold htm
  rw [List.count_append, List.count_append, lis_60, show ulA.count 60 = 1 by decide, show ulB.count 60 = 1 by decide]
  omega
def long : List It → Nat
  | [] => 0
  | x :: l => 25 + (enc x.link).length + (enc (tl x.title)).length + long l
theorem lis_long : ∀ l : List It, (l.flatMap li).length = long l
  | [] => rfl
  | x :: l => by
    rw [List.flatMap_cons, List.length_append, lis_long l, long]
    unfold li liA liB liC
    simp only [List.length_append, List.length_cons, List.length_nil]; omega
theorem htm_long (l : List It) : (htm l).length = 11 + long l := by
  unfold htm ulA ulB
  simp only [List.length_append, List.length_cons, List.length_nil, lis_long]; omega
theorem long_take {l : List It} {i : Nat} {x : It} (h : l[i]? = some x) : long (l.take (i + 1)) = long (l.take i) + (25 + (enc x.link).length + (enc (tl x.title)).length) := by
  have h1 := lis_long (l.take (i + 1))
  have h2 := lis_long (l.take i)
  rw [flat_take li h, List.length_append] at h1
  have h3 := lis_long [x]
  simp only [List.flatMap_cons, List.flatMap_nil, List.append_nil] at h3
  rw [h3, h2] at h1
  rw [← h1]
  simp [long]
def bare (x : It) : It := { x with feed := 0, seq := 0 }
theorem txt_both (a b : List It) : txt (a.map bare ++ b) = txt a ++ txt b := by
  unfold txt
  rw [List.flatMap_append, List.flatMap_map]; rfl
theorem htm_both (a b : List It) : htm (a.map bare ++ b) = (htm a).take ((htm a).length - 6) ++ (htm b).drop 5 := by
  unfold htm
  have h1 : (ulA ++ (a.flatMap li ++ ulB)).take ((ulA ++ (a.flatMap li ++ ulB)).length - 6) = ulA ++ a.flatMap li := by
    rw [← List.append_assoc]
    have : ((ulA ++ a.flatMap li) ++ ulB).length - 6 = (ulA ++ a.flatMap li).length := by
      rw [List.length_append]; simp [ulB]
    rw [this, List.take_left]
  have h2 : (ulA ++ (b.flatMap li ++ ulB)).drop 5 = b.flatMap li ++ ulB := by
    rw [show (5 : Nat) = ulA.length from rfl, List.drop_left]
  rw [h1, h2, List.flatMap_append, List.flatMap_map]
  simp only [List.append_assoc]; rfl
end Go.Proofs.YtjlpkgipdkjfhaaGreatDoor.Dg
namespace Go.Proofs.YtjlpkgipdkjfhaaGreatDoor.Dg
open Go.ChangeShapes Go.WideShapes Go.ChangeAt Go.RowKit
open En
open Pl
def e5 (x : It) : Array Value := #[sV x.id, sV x.title, sV x.link, sV x.text, iV x.at']
abbrev entV (x : It) : Value := .agg #[sV x.id, sV x.title, sV x.link, sV x.text, iV x.at']
def Eb (b : Nat) (x : It) (W : World) : Prop := W.heap[b]? = some (.cells (e5 x) 48)
theorem Eb.lt {b : Nat} {e : It} {W : World} (h : Eb b e W) : b < W.heap.size := (Array.getElem?_eq_some_iff.1 h).1
theorem Eb.kept {b : Nat} {e : It} {W W' : World} (h : Eb b e W) (k : Kept W W') : Eb b e W' := (k.block _ h.lt).trans h
theorem Eb.c0 {b : Nat} {e : It} {W : World} (h : Eb b e W) : W.cell? ⟨b, 0, none⟩ = some (sV e.id) := cell_at h rfl
theorem Eb.c1 {b : Nat} {e : It} {W : World} (h : Eb b e W) : W.cell? ⟨b, 1, none⟩ = some (sV e.title) := cell_at h rfl
theorem Eb.c2 {b : Nat} {e : It} {W : World} (h : Eb b e W) : W.cell? ⟨b, 2, none⟩ = some (sV e.link) := cell_at h rfl
theorem Eb.c3 {b : Nat} {e : It} {W : World} (h : Eb b e W) : W.cell? ⟨b, 3, none⟩ = some (sV e.text) := cell_at h rfl
theorem Eb.c4 {b : Nat} {e : It} {W : World} (h : Eb b e W) : W.cell? ⟨b, 4, none⟩ = some (iV e.at') := cell_at h rfl
theorem Eb.new (W : World) (e : It) : Eb W.heap.size e (W.alloc (.cells (e5 e) 48)) := World.alloc_heap_new W _
theorem wrp_ne (s : B) : wrp 72 s ≠ [] := by
  unfold wrp
  rw [if_neg (by omega)]
  cases h : splt 10 s with
  | nil => exact absurd h (splt_ne 10 s)
  | cons x l =>
    intro e
    rw [List.flatMap_cons] at e
    exact fil_ne 72 x (List.append_eq_nil_iff.1 e).1
theorem wpList_pushM {ops : Array Oper} {rest : List Oper} {op : Oper} {a : Act} {w : World} {Q : Exit → Act → World → Prop} (hg : op.guard = none) (sx x : Operand) (ho : op.op = .call { callee := .builtin .append, args := #[sx, x], argTypes := #[42, 42] })
    (B0 B1 : Nat) (v vx : Value) (ls rs : List B) (hs : a.eval sx = v) (hO : OwnS B0 v ls w) (hx : a.eval x = vx) (hR : OwnS B1 vx rs w) (hne : rs ≠ []) (hl : ls.length + rs.length ≤ 8000000000000) (hB : B0 ≤ w.heap.size)
    (h : ∀ v' w', OwnS B0 v' (ls ++ rs) w' → w.grownBy w' v.ownBlock → wpList Tryz.prog ops Q rest (a.put op.dst v') w') : wpList Tryz.prog ops Q (op :: rest) a w :=
  wpList_plain hg fun K hK => wp_pushM sx x ho B0 B1 v vx ls rs hs hO hx hR hne hl hB (fun v' w' h1 h2 => hK _ _ (h v' w' h1 h2))
theorem joinN_any (v : Value) (ls : List B) (n : Nat) (w : World) (h : OwnS n v ls w) (hne : ls ≠ []) (hl : ls.length ≤ 8000000000000) (hb : (Lib.join ls [10]).length ≤ 100000000000000) :
    Calls Tryz.prog 60 #[v, .string ⟨#[10]⟩] w fun e w' => e = .returned (sV (Lib.join ls [10])) ∧ Kept w w' := by
  have hz : ¬ ls.length = 0 := fun e => hne (List.length_eq_zero_iff.1 e)
  obtain ⟨g, cap, rfl, hc⟩ := OutS.at (show OutS n v ls w from h) (show 0 < ls.length by omega)
  obtain ⟨hcap, hg⟩ : ls.length ≤ cap ∧ g < w.heap.size := by
    rcases h.2 with ⟨h1, h2⟩ | ⟨g', cap', cur, h1, h2, h3, h4, _⟩
    · exact absurd h2 hz
    · injection h1 with e1 _ e3
      cases e1
      subst e3
      exact ⟨h4, (Array.getElem?_eq_some_iff.1 h3).1⟩
  have he : Lib.join ((ls.map fun t => (⟨t.toArray⟩ : ByteArray)).map (·.data.toList)) (ByteArray.mk #[10]).data.toList = Lib.join ls [10] := by
    rw [List.map_map, show ((fun x : ByteArray => x.data.toList) ∘ fun t : B => (⟨t.toArray⟩ : ByteArray)) = id from rfl, List.map_id]
  have := Tryz.strings_Join g 0 cap (ls.map fun t => (⟨t.toArray⟩ : ByteArray)) ⟨#[10]⟩ w (fun j x hx => by
    rw [List.getElem?_map] at hx
    cases hj : ls[j]? with
    | none => rw [hj] at hx; cases hx
    | some p => rw [hj] at hx; cases hx; rw [Nat.zero_add]; exact hc j p hj) hg (by rw [List.length_map]; omega) (by rw [List.length_map]; exact hcap) (by rw [he]; omega)
  rw [he, List.length_map] at this
  refine this.mono ?_
  rintro e w' ⟨rfl, hb'⟩
  exact ⟨rfl, Kept.of_below hb'⟩
set_option maxRecDepth 100000 in
set_option maxHeartbeats 1000000 in
theorem title_any (x : It) (w : World) : Calls Tryz.prog 112 #[entV x] w fun e w' => e = .returned (sV (tl x.title)) ∧ Kept w w' := by
  have B0 := Lib.hid (Eb.new w x)
  have K0 := Lib.hid ((Kept.refl w).alloc (.cells (e5 x) 48))
  have HT := Lib.hid (show tl x.title = if x.title = [] then unT else x.title from rfl)
  obtain ⟨f, s, a0, a1, a2, a3, a4⟩ := x
  simp only at HT
  go_enter Tryz.func112, Tryz.ntmps112
  go_upto_region 1 with (fail)
  rw [show w.alloc (.cells #[.string ⟨a0.toArray⟩, .string ⟨a1.toArray⟩, .string ⟨a2.toArray⟩, .string ⟨a3.toArray⟩, .int .i64 a4] 48) = w.alloc (.cells (e5 ⟨f, s, a0, a1, a2, a3, a4⟩) 48) from rfl]
  generalize w.heap.size = b at *
  generalize w.alloc (.cells (e5 ⟨f, s, a0, a1, a2, a3, a4⟩) 48) = y at *
  have c1 := Eb.c1 B0.out
  simp only at c1
  cases hem : a1.isEmpty with
  | true =>
    have HZ := Lib.hid (show tl a1 = unT by rw [HT.out, if_pos (by simpa using hem)])
    go_wp2
    go_ret
    exact ⟨by rw [HZ.out]; rfl, K0.out⟩
  | false =>
    have HZ := Lib.hid (show tl a1 = a1 by rw [HT.out, if_neg (by intro e; rw [e] at hem; cases hem)])
    go_wp2
    go_ret
    exact ⟨by rw [HZ.out]; rfl, K0.out⟩
theorem li_bytes (x2 x1 : B) : (⟨#[60, 108, 105, 62, 60, 97, 32, 104, 114, 101, 102, 61, 34]⟩ : ByteArray) ++ ⟨x2.toArray⟩ ++ ⟨#[34, 62]⟩ ++ ⟨x1.toArray⟩ ++ ⟨#[60, 47, 97, 62, 60, 47, 108, 105, 62]⟩ ++ ⟨#[10]⟩ = ⟨(liA ++ (x2 ++ (liB ++ (x1 ++ liC)))).toArray⟩ := by
  apply ByteArray.ext
  simp [ByteArray.data_append, liA, liB, liC]
theorem held5 {W x x' : World} {b : Nat} {a0 a1 a2 a3 a4 : Value} (k : Kept x x') (H : Kept W x ∧ x.cell? ⟨b, 0, none⟩ = some a0 ∧ x.cell? ⟨b, 1, none⟩ = some a1 ∧ x.cell? ⟨b, 2, none⟩ = some a2 ∧ x.cell? ⟨b, 3, none⟩ = some a3 ∧ x.cell? ⟨b, 4, none⟩ = some a4) (hb : b < W.heap.size) :
    Kept W x' ∧ x'.cell? ⟨b, 0, none⟩ = some a0 ∧ x'.cell? ⟨b, 1, none⟩ = some a1 ∧ x'.cell? ⟨b, 2, none⟩ = some a2 ∧ x'.cell? ⟨b, 3, none⟩ = some a3 ∧ x'.cell? ⟨b, 4, none⟩ = some a4 := by
  obtain ⟨h0, h1, h2, h3, h4, h5⟩ := H
  exact ⟨h0.trans k, k.yes h1, k.yes h2, k.yes h3, k.yes h4, k.yes h5⟩
set_option maxRecDepth 100000 in
set_option maxHeartbeats 4000000 in
theorem listed_any (x : It) (w : World) (h1 : x.title.length ≤ 1050000) (h2 : x.link.length ≤ 1050000) : Calls Tryz.prog 80 #[entV x] w fun e w' => e = .returned (sV (li x)) ∧ Kept w w' := by
  have B0 := Lib.hid (Eb.new w x)
  have K0 := Lib.hid ((Kept.refl w).alloc (.cells (e5 x) 48))
  have HL := Lib.hid (show li x = liA ++ (enc x.link ++ (liB ++ (enc (tl x.title) ++ liC))) from rfl)
  have HT := Lib.hid (title_any x)
  have ht := tl_len x.title
  obtain ⟨f, s, a0, a1, a2, a3, a4⟩ := x
  simp only at HL HT h1 h2 ht
  have E2 := Lib.hid (fun w => encode_any a2 w (by omega))
  have E1 := Lib.hid (fun w => encode_any (tl a1) w (by omega))
  have q2 := enc_len a2
  have q1 := enc_len (tl a1)
  generalize enc a2 = x2 at *
  generalize enc (tl a1) = x1 at *
  generalize tl a1 = t1 at *
  go_enter Tryz.func80, Tryz.ntmps80
  go_upto_region 1 with (fail)
  rw [show w.alloc (.cells #[.string ⟨a0.toArray⟩, .string ⟨a1.toArray⟩, .string ⟨a2.toArray⟩, .string ⟨a3.toArray⟩, .int .i64 a4] 48) = w.alloc (.cells (e5 ⟨f, s, a0, a1, a2, a3, a4⟩) 48) from rfl]
  generalize w.heap.size = b at *
  generalize w.alloc (.cells (e5 ⟨f, s, a0, a1, a2, a3, a4⟩) 48) = y at *
  have c0 := Eb.c0 B0.out
  have c1 := Eb.c1 B0.out
  have c2 := Eb.c2 B0.out
  have c3 := Eb.c3 B0.out
  have c4 := Eb.c4 B0.out
  simp only at c0 c1 c2 c3 c4
  have hb : b < y.heap.size := Eb.lt B0.out
  have l1 : ¬ 9223372036854775807 < 13 + x2.length := by omega
  have l2 : ¬ 9223372036854775807 < 13 + x2.length + 2 := by omega
  have l3 : ¬ 9223372036854775807 < 13 + x2.length + 2 + x1.length := by omega
  have l4 : ¬ 9223372036854775807 < 13 + x2.length + 2 + x1.length + 9 := by omega
  have l5 : ¬ 9223372036854775807 < 13 + x2.length + 2 + x1.length + 9 + 1 := by omega
  clear q1 q2 h1 h2 ht
  go_region_held3 (fun x => Kept y x ∧ x.cell? ⟨b, 0, none⟩ = some (sV a0) ∧ x.cell? ⟨b, 1, none⟩ = some (sV a1) ∧ x.cell? ⟨b, 2, none⟩ = some (sV a2) ∧ x.cell? ⟨b, 3, none⟩ = some (sV a3) ∧ x.cell? ⟨b, 4, none⟩ = some (iV a4))
    (first | exact held5 (by assumption) (by assumption) hb | assumption | exact ⟨(Kept.refl y).drew, c0, c1, c2, c3, c4⟩)
    (first | (go_at_call_of 121 (sV a2); refine (E2.out _).mono ?_; rintro e w' ⟨rfl, hk'⟩)
           | (go_at_call_of 121 (sV t1); refine (E1.out _).mono ?_; rintro e w' ⟨rfl, hk'⟩)
           | (go_at_call 112; refine (HT.out _).mono ?_; rintro e w' ⟨rfl, hk'⟩))
  have hK := (‹Kept y _ ∧ _›).1
  go_wp2
  go_ret
  refine ⟨?_, K0.out.trans hK⟩
  rw [HL.out]
  exact congrArg (fun s => Ending.returned (Value.string s)) (li_bytes x2 x1)
structure Pg (w : World) (x : It) (v : Value) (ls : List B) (y : World) : Prop where
  k : Kept w y
  e : Eb w.heap.size x y
  o : OwnS (w.heap.size + 1) v ls y
theorem Pg.kept {w : World} {x : It} {v : Value} {ls : List B} {y z : World} (h : Pg w x v ls y) (k : Kept y z) : Pg w x v ls z := ⟨h.k.trans k, h.e.kept k, h.o.kept k⟩
theorem Pg.push {w : World} {x : It} {v v' : Value} {ls ls' : List B} {y z : World} (h : Pg w x v ls y) (ho : OwnS (w.heap.size + 1) v' ls' z) (hg : y.grownBy z v.ownBlock) : Pg w x v' ls' z := by
  have hr : ∀ g, v.ownBlock = some g → w.heap.size + 1 ≤ g := by
    intro g hv
    rcases h.o.2 with ⟨h1, _⟩ | ⟨g', cap, cur, h1, h2, _⟩
    · rw [h1] at hv; simp [Value.ownBlock] at hv
    · rw [h1] at hv; simp [Value.ownBlock] at hv; omega
  refine ⟨kept_row h.k hg (fun g e => by have := hr g e; omega), ?_, ho⟩
  exact (hg.block _ h.e.lt (fun e => by have := hr _ e.symm; omega)).trans h.e
theorem Pg.size {w : World} {x : It} {v : Value} {ls : List B} {y : World} (h : Pg w x v ls y) : w.heap.size + 1 ≤ y.heap.size := by have := h.e.lt; omega
set_option maxRecDepth 100000 in
set_option maxHeartbeats 8000000 in
theorem paragraph_any (x : It) (w : World) (hE : EnvP w) (h1 : x.title.length ≤ 1050000) (h2 : x.link.length ≤ 1050000) (h3 : x.text.length ≤ 1050000) : Calls Tryz.prog 72 #[entV x] w fun e w' => e = .returned (sV (par x)) ∧ Kept w w' := by
  have B0 := Eb.new w x
  have K0 := (Kept.refl w).alloc (.cells (e5 x) 48)
  have HJ := Lib.hid (par_join x)
  have hpl := par_len x
  have HPL := Lib.hid (show parL x = wrp 72 (tl x.title) ++ ((if x.link = [] then [] else [x.link]) ++ ((if ofP x.text = [] then [] else wrp 72 (ofP x.text)) ++ [[]])) from rfl)
  have HT := Lib.hid (title_any x)
  have ht := tl_len x.title
  have HE := Lib.hid hE
  have hof := ofP_len x.text
  have HW1 := Lib.hid (fun w hE => wrap_any (tl x.title) 72 w hE (by omega))
  have HW2 := Lib.hid (fun w hE => wrap_any (ofP x.text) 72 w hE (by omega))
  have HO := Lib.hid (fun w hE => of_any x.text w hE (by omega))
  have n1 := wrp_num 72 (tl x.title)
  have n2 := wrp_num 72 (ofP x.text)
  have e1 := wrp_ne (tl x.title)
  have e2 := wrp_ne (ofP x.text)
  have HJL := Lib.hid (show (Lib.join (parL x) [10]).length ≤ 100000000000000 by
    have := congrArg List.length HJ.out
    simp only [List.length_append, List.length_cons, List.length_nil] at this
    omega)
  generalize parL x = PL at *
  generalize par x = PA at *
  have l1 : wrp 72 (tl x.title) ≠ [] := e1
  have B0' := Lib.hid B0
  have K0' := Lib.hid K0
  clear B0 K0
  obtain ⟨f, s, a0, a1, a2, a3, a4⟩ := x
  simp only at *
  generalize hT : ofP a3 = T at *
  generalize tl a1 = t1 at *
  generalize wrp 72 t1 = L1 at *
  generalize wrp 72 T = L3 at *
  have HB1 := Lib.hid (show L1.length ≤ 2100022 by omega)
  have HB3 := Lib.hid (show L3.length ≤ 4200012 by omega)
  have hTl : T.length ≤ 2100002 := by omega
  clear n1 n2 hof ht hpl hT h1 h2 h3 hE l1
  go_enter Tryz.func72, Tryz.ntmps72
  go_upto_region 1 with (fail)
  rw [show w.alloc (.cells #[.string ⟨a0.toArray⟩, .string ⟨a1.toArray⟩, .string ⟨a2.toArray⟩, .string ⟨a3.toArray⟩, .int .i64 a4] 48) = w.alloc (.cells (e5 ⟨f, s, a0, a1, a2, a3, a4⟩) 48) from rfl]
  generalize w.alloc (.cells (e5 ⟨f, s, a0, a1, a2, a3, a4⟩) 48) = y0 at *
  have c0 := Eb.c0 B0'.out
  have c1 := Eb.c1 B0'.out
  have c2 := Eb.c2 B0'.out
  have c3 := Eb.c3 B0'.out
  have c4 := Eb.c4 B0'.out
  simp only at c0 c1 c2 c3 c4
  go_wp2_with fail
  refine (HT.out _).mono ?_
  rintro e y1 ⟨rfl, k1⟩
  have B1 := Lib.hid (B0'.out.kept k1)
  have K1 := Lib.hid (K0'.out.trans k1)
  clear k1 c0 c1 c2 c3 c4 B0' K0' HT
  go_wp2_with fail
  refine (HW1.out _ (HE.out.kept K1.out).env).mono ?_
  rintro e y2 ⟨v, rfl, ho, k2⟩
  have P2 := Lib.hid (show Pg w ⟨f, s, a0, a1, a2, a3, a4⟩ v L1 y2 from ⟨K1.out.trans k2, B1.out.kept k2, own_mono ho (by have := B1.out.lt; omega)⟩)
  clear k2 ho K1 B1
  cases hl : a2.isEmpty with
  | true =>
    have hl0 : a2 = [] := by simpa using hl
    have HK := Lib.hid (show (if a2 = [] then ([] : List B) else [a2]) = [] from if_pos hl0)
    have c2 := Eb.c2 P2.out.e
    simp only at c2
    clear hl0
    have c3 := Eb.c3 P2.out.e
    simp only at c3
    go_wp2_with fail
    refine (HO.out _ (HE.out.kept P2.out.k)).mono ?_
    rintro e y4 ⟨rfl, k4⟩
    have P4 := Lib.hid (P2.out.kept k4)
    clear k4 c3
    cases ht4 : T.isEmpty with
    | true =>
      have hT0 : T = [] := by simpa using ht4
      have HX := Lib.hid (show (if T = [] then ([] : List B) else L3) = [] from if_pos hT0)
      clear hT0
      have hPL := HPL.out
      rw [HK.out, HX.out] at hPL
      have HPQ := Lib.hid (show PL = L1 ++ [[]] by rw [hPL]; simp only [List.append_assoc, List.nil_append])
      clear hPL
      have al14 := (Kept.refl y4).alloc (.cells #[sV []] 9)
      have Q14 := Lib.hid (P4.out.kept al14)
      have hc14 := (Kept.refl (y4.alloc (.cells #[sV []] 9))).new 0 (v := sV []) rfl
      clear al14
      have hS14 := Q14.out.size
      go_wp2_with (at_builtin; refine wpList_pushS rfl _ _ rfl (w.heap.size + 1) _ _ [] y4.heap.size rfl Q14.out.o rfl hc14 (by have := HB1.out; have := HB3.out; (try simp only [List.length_append, List.length_cons, List.length_nil]); omega) (by omega) ?_)
      intro v14 z14 hz14 hg14
      have Z14 := Lib.hid (Q14.out.push hz14 hg14)
      clear hz14 hg14 hc14 Q14 hS14
      have hO : OwnS (w.heap.size + 1) v14 PL z14 := by
        have h := Z14.out.o
        rw [HPQ.out]
        simpa only [List.append_assoc, List.cons_append, List.nil_append] using h
      have hF := joinN_any _ PL _ _ hO (by rw [HPQ.out]; simp) (by rw [HPQ.out]; have := HB1.out; have := HB3.out; simp only [List.length_append, List.length_cons, List.length_nil]; omega) HJL.out
      have HF := Lib.hid hF
      have HJ2 := Lib.hid HJ.out
      have hjl : ¬ 9223372036854775807 < (Lib.join PL [10]).length + 1 := by have := HJL.out; omega
      have KZ := Lib.hid Z14.out.k
      clear hF hO Z14 HJL HJ HPQ HPL
      generalize Lib.join PL [10] = J at *
      go_wp2_with fail
      refine HF.out.mono ?_
      rintro e yj ⟨rfl, kj⟩
      have KJ := Lib.hid (KZ.out.trans kj)
      clear kj
      go_wp2
      go_ret
      exact ⟨by rw [← HJ2.out]; rfl, KJ.out⟩
    | false =>
      have hT0 : T ≠ [] := by intro e; rw [e] at ht4; cases ht4
      have HX := Lib.hid (show (if T = [] then ([] : List B) else L3) = L3 from if_neg hT0)
      clear hT0
      go_wp2_with fail
      refine (HW2.out _ (HE.out.kept P4.out.k).env).mono ?_
      rintro e x4 ⟨m, rfl, ho, kx⟩
      have R4 := Lib.hid (P4.out.kept kx)
      have hSz := R4.out.size
      clear kx
      go_wp2_with (at_builtin; refine wpList_pushM rfl _ _ rfl (w.heap.size + 1) y4.heap.size _ _ _ L3 rfl R4.out.o rfl ho e2 (by have := HB1.out; have := HB3.out; (try simp only [List.length_append, List.length_cons, List.length_nil]); omega) (by omega) ?_)
      intro vm zm hzm hgm
      have RM := Lib.hid (R4.out.push hzm hgm)
      clear hzm hgm R4 hSz ho
      have hPL := HPL.out
      rw [HK.out, HX.out] at hPL
      have HPQ := Lib.hid (show PL = (L1 ++ L3) ++ [[]] by rw [hPL]; simp only [List.append_assoc, List.nil_append])
      clear hPL
      have al24 := (Kept.refl zm).alloc (.cells #[sV []] 9)
      have Q24 := Lib.hid (RM.out.kept al24)
      have hc24 := (Kept.refl (zm.alloc (.cells #[sV []] 9))).new 0 (v := sV []) rfl
      clear al24
      have hS24 := Q24.out.size
      go_wp2_with (at_builtin; refine wpList_pushS rfl _ _ rfl (w.heap.size + 1) _ _ [] zm.heap.size rfl Q24.out.o rfl hc24 (by have := HB1.out; have := HB3.out; (try simp only [List.length_append, List.length_cons, List.length_nil]); omega) (by omega) ?_)
      intro v24 z24 hz24 hg24
      have Z24 := Lib.hid (Q24.out.push hz24 hg24)
      clear hz24 hg24 hc24 Q24 hS24
      have hO : OwnS (w.heap.size + 1) v24 PL z24 := by
        have h := Z24.out.o
        rw [HPQ.out]
        simpa only [List.append_assoc, List.cons_append, List.nil_append] using h
      have hF := joinN_any _ PL _ _ hO (by rw [HPQ.out]; simp) (by rw [HPQ.out]; have := HB1.out; have := HB3.out; simp only [List.length_append, List.length_cons, List.length_nil]; omega) HJL.out
      have HF := Lib.hid hF
      have HJ2 := Lib.hid HJ.out
      have hjl : ¬ 9223372036854775807 < (Lib.join PL [10]).length + 1 := by have := HJL.out; omega
      have KZ := Lib.hid Z24.out.k
      clear hF hO Z24 HJL HJ HPQ HPL
      generalize Lib.join PL [10] = J at *
      go_wp2_with fail
      refine HF.out.mono ?_
      rintro e yj ⟨rfl, kj⟩
      have KJ := Lib.hid (KZ.out.trans kj)
      clear kj
      go_wp2
      go_ret
      exact ⟨by rw [← HJ2.out]; rfl, KJ.out⟩
  | false =>
    have hl0 : a2 ≠ [] := by intro e; rw [e] at hl; cases hl
    have HK := Lib.hid (show (if a2 = [] then ([] : List B) else [a2]) = [a2] from if_neg hl0)
    have c2 := Eb.c2 P2.out.e
    simp only at c2
    clear hl0
    have al3 := (Kept.refl y2).alloc (.cells #[sV a2] 9)
    have Q3 := Lib.hid (P2.out.kept al3)
    have hc3 := (Kept.refl (y2.alloc (.cells #[sV a2] 9))).new 0 (v := sV a2) rfl
    clear al3
    have hS3 := Q3.out.size
    go_wp2_with (at_builtin; refine wpList_pushS rfl _ _ rfl (w.heap.size + 1) _ _ a2 y2.heap.size rfl Q3.out.o rfl hc3 (by have := HB1.out; have := HB3.out; (try simp only [List.length_append, List.length_cons, List.length_nil]); omega) (by omega) ?_)
    intro v3 z3 hz3 hg3
    have Z3 := Lib.hid (Q3.out.push hz3 hg3)
    clear hz3 hg3 hc3 Q3 hS3
    have c3 := Eb.c3 Z3.out.e
    simp only at c3
    go_wp2_with fail
    refine (HO.out _ (HE.out.kept Z3.out.k)).mono ?_
    rintro e y5 ⟨rfl, k5⟩
    have P5 := Lib.hid (Z3.out.kept k5)
    clear k5 c3
    cases ht5 : T.isEmpty with
    | true =>
      have hT0 : T = [] := by simpa using ht5
      have HX := Lib.hid (show (if T = [] then ([] : List B) else L3) = [] from if_pos hT0)
      clear hT0
      have hPL := HPL.out
      rw [HK.out, HX.out] at hPL
      have HPQ := Lib.hid (show PL = (L1 ++ [a2]) ++ [[]] by rw [hPL]; simp only [List.append_assoc, List.nil_append])
      clear hPL
      have al15 := (Kept.refl y5).alloc (.cells #[sV []] 9)
      have Q15 := Lib.hid (P5.out.kept al15)
      have hc15 := (Kept.refl (y5.alloc (.cells #[sV []] 9))).new 0 (v := sV []) rfl
      clear al15
      have hS15 := Q15.out.size
      go_wp2_with (at_builtin; refine wpList_pushS rfl _ _ rfl (w.heap.size + 1) _ _ [] y5.heap.size rfl Q15.out.o rfl hc15 (by have := HB1.out; have := HB3.out; (try simp only [List.length_append, List.length_cons, List.length_nil]); omega) (by omega) ?_)
      intro v15 z15 hz15 hg15
      have Z15 := Lib.hid (Q15.out.push hz15 hg15)
      clear hz15 hg15 hc15 Q15 hS15
      have hO : OwnS (w.heap.size + 1) v15 PL z15 := by
        have h := Z15.out.o
        rw [HPQ.out]
        simpa only [List.append_assoc, List.cons_append, List.nil_append] using h
      have hF := joinN_any _ PL _ _ hO (by rw [HPQ.out]; simp) (by rw [HPQ.out]; have := HB1.out; have := HB3.out; simp only [List.length_append, List.length_cons, List.length_nil]; omega) HJL.out
      have HF := Lib.hid hF
      have HJ2 := Lib.hid HJ.out
      have hjl : ¬ 9223372036854775807 < (Lib.join PL [10]).length + 1 := by have := HJL.out; omega
      have KZ := Lib.hid Z15.out.k
      clear hF hO Z15 HJL HJ HPQ HPL
      generalize Lib.join PL [10] = J at *
      go_wp2_with fail
      refine HF.out.mono ?_
      rintro e yj ⟨rfl, kj⟩
      have KJ := Lib.hid (KZ.out.trans kj)
      clear kj
      go_wp2
      go_ret
      exact ⟨by rw [← HJ2.out]; rfl, KJ.out⟩
    | false =>
      have hT0 : T ≠ [] := by intro e; rw [e] at ht5; cases ht5
      have HX := Lib.hid (show (if T = [] then ([] : List B) else L3) = L3 from if_neg hT0)
      clear hT0
      go_wp2_with fail
      refine (HW2.out _ (HE.out.kept P5.out.k).env).mono ?_
      rintro e x5 ⟨m, rfl, ho, kx⟩
      have R5 := Lib.hid (P5.out.kept kx)
      have hSz := R5.out.size
      clear kx
      go_wp2_with (at_builtin; refine wpList_pushM rfl _ _ rfl (w.heap.size + 1) y5.heap.size _ _ _ L3 rfl R5.out.o rfl ho e2 (by have := HB1.out; have := HB3.out; (try simp only [List.length_append, List.length_cons, List.length_nil]); omega) (by omega) ?_)
      intro vm zm hzm hgm
      have RM := Lib.hid (R5.out.push hzm hgm)
      clear hzm hgm R5 hSz ho
      have hPL := HPL.out
      rw [HK.out, HX.out] at hPL
      have HPQ := Lib.hid (show PL = ((L1 ++ [a2]) ++ L3) ++ [[]] by rw [hPL]; simp only [List.append_assoc, List.nil_append])
      clear hPL
      have al25 := (Kept.refl zm).alloc (.cells #[sV []] 9)
      have Q25 := Lib.hid (RM.out.kept al25)
      have hc25 := (Kept.refl (zm.alloc (.cells #[sV []] 9))).new 0 (v := sV []) rfl
      clear al25
      have hS25 := Q25.out.size
      go_wp2_with (at_builtin; refine wpList_pushS rfl _ _ rfl (w.heap.size + 1) _ _ [] zm.heap.size rfl Q25.out.o rfl hc25 (by have := HB1.out; have := HB3.out; (try simp only [List.length_append, List.length_cons, List.length_nil]); omega) (by omega) ?_)
      intro v25 z25 hz25 hg25
      have Z25 := Lib.hid (Q25.out.push hz25 hg25)
      clear hz25 hg25 hc25 Q25 hS25
      have hO : OwnS (w.heap.size + 1) v25 PL z25 := by
        have h := Z25.out.o
        rw [HPQ.out]
        simpa only [List.append_assoc, List.cons_append, List.nil_append] using h
      have hF := joinN_any _ PL _ _ hO (by rw [HPQ.out]; simp) (by rw [HPQ.out]; have := HB1.out; have := HB3.out; simp only [List.length_append, List.length_cons, List.length_nil]; omega) HJL.out
      have HF := Lib.hid hF
      have HJ2 := Lib.hid HJ.out
      have hjl : ¬ 9223372036854775807 < (Lib.join PL [10]).length + 1 := by have := HJL.out; omega
      have KZ := Lib.hid Z25.out.k
      clear hF hO Z25 HJL HJ HPQ HPL
      generalize Lib.join PL [10] = J at *
      go_wp2_with fail
      refine HF.out.mono ?_
      rintro e yj ⟨rfl, kj⟩
      have KJ := Lib.hid (KZ.out.trans kj)
      clear kj
      go_wp2
      go_ret
      exact ⟨by rw [← HJ2.out]; rfl, KJ.out⟩
def ItAt (g o : Nat) (x : It) (w : World) : Prop := w.cell? ⟨g, o, none⟩ = some (iV x.feed) ∧ w.cell? ⟨g, o + 1, none⟩ = some (iV x.seq) ∧ w.cell? ⟨g, o + 2, none⟩ = some (sV x.id) ∧ w.cell? ⟨g, o + 3, none⟩ = some (sV x.title) ∧ w.cell? ⟨g, o + 4, none⟩ = some (sV x.link) ∧ w.cell? ⟨g, o + 5, none⟩ = some (sV x.text) ∧ w.cell? ⟨g, o + 6, none⟩ = some (iV x.at')
def ItRd (v : Value) (l : List It) (w : World) : Prop := ∃ a c, v = .slice a l.length c ∧ (l ≠ [] → ∃ g o, a = some ⟨g, o, none⟩ ∧ l.length ≤ c ∧ ∀ (i : Nat) (x : It), l[i]? = some x → ItAt g (o + i * 7) x w)
theorem ItAt.kept {g o : Nat} {x : It} {w w' : World} (h : ItAt g o x w) (k : Kept w w') : ItAt g o x w' := ⟨k.yes h.1, k.yes h.2.1, k.yes h.2.2.1, k.yes h.2.2.2.1, k.yes h.2.2.2.2.1, k.yes h.2.2.2.2.2.1, k.yes h.2.2.2.2.2.2⟩
theorem ItRd.kept {v : Value} {l : List It} {w w' : World} (h : ItRd v l w) (k : Kept w w') : ItRd v l w' := by
  obtain ⟨a, c, hv, h⟩ := h
  refine ⟨a, c, hv, fun hne => ?_⟩
  obtain ⟨g, o, ha, hc, h⟩ := h hne
  exact ⟨g, o, ha, hc, fun i e he => (h i e he).kept k⟩
theorem ItRd.slice {v : Value} {l : List It} {w : World} (h : ItRd v l w) : ∃ a c, v = .slice a l.length c := by
  obtain ⟨a, c, hv, _⟩ := h
  exact ⟨a, c, hv⟩
theorem ItRd.at {a : Option Addr} {n c : Nat} {l : List It} {w : World} (h : ItRd (.slice a n c) l w) {i : Nat} {x : It} (he : l[i]? = some x) : n = l.length ∧ ∃ g o, a = some ⟨g, o, none⟩ ∧ l.length ≤ c ∧ ItAt g (o + i * 7) x w := by
  obtain ⟨a', c', hv, h⟩ := h
  cases hv
  have hne : l ≠ [] := by rintro rfl; simp at he
  obtain ⟨g, o, ha, hc, h⟩ := h hne
  exact ⟨rfl, g, o, ha, hc, h i x he⟩
theorem ItRd.nil (w : World) : ItRd (.slice none 0 0) [] w := ⟨none, 0, rfl, fun h => absurd rfl h⟩
def i7 (x : It) : Array Value := #[iV x.feed, iV x.seq, sV x.id, sV x.title, sV x.link, sV x.text, iV x.at']
def Ib (b : Nat) (x : It) (W : World) : Prop := W.heap[b]? = some (.cells (i7 x) 50)
theorem Ib.new (W : World) (e : It) : Ib W.heap.size e (W.alloc (.cells (i7 e) 50)) := World.alloc_heap_new W _
theorem Ib.c2 {b : Nat} {e : It} {W : World} (h : Ib b e W) : W.cell? ⟨b, 2, none⟩ = some (sV e.id) := cell_at h rfl
theorem Ib.c3 {b : Nat} {e : It} {W : World} (h : Ib b e W) : W.cell? ⟨b, 3, none⟩ = some (sV e.title) := cell_at h rfl
theorem Ib.c4 {b : Nat} {e : It} {W : World} (h : Ib b e W) : W.cell? ⟨b, 4, none⟩ = some (sV e.link) := cell_at h rfl
theorem Ib.c5 {b : Nat} {e : It} {W : World} (h : Ib b e W) : W.cell? ⟨b, 5, none⟩ = some (sV e.text) := cell_at h rfl
theorem Ib.c6 {b : Nat} {e : It} {W : World} (h : Ib b e W) : W.cell? ⟨b, 6, none⟩ = some (iV e.at') := cell_at h rfl
theorem Wrote.kept {b : Nat} {l : List UInt8} {y x x' : World} (h : Wrote b b l x x') (k : Kept y x) (hb : y.heap.size = b) : Kept y x' := by
  subst hb
  exact Kept.of_below ((k.below (Nat.le_refl _)).trans h.below)
abbrev wayV (kind ahead behind : B) (gf : Nat) : Value := .agg #[sV kind, sV ahead, sV behind, .func (.func gf) #[] #[]]
set_option maxRecDepth 100000 in
set_option maxHeartbeats 4000000 in
theorem written_any (kind ahead behind : B) (gf : Nat) (f : It → B) (v : Value) (l : List It) (w : World) (hR : ItRd v l w) (hE : EnvP w)
    (eg : ∀ args w, (callFunc gf args).run Tryz.prog w = .ok (.enter gf args) w)
    (hf : ∀ x ∈ l, ∀ w, EnvP w → Calls Tryz.prog gf #[entV x] w fun e w' => e = .returned (sV (f x)) ∧ Kept w w')
    (hN : l.length ≤ 1000000000000) (hb : (ahead ++ (l.flatMap f ++ behind)).length ≤ 100000000000) :
    Calls Tryz.prog 35 #[wayV kind ahead behind gf, v] w fun e w' => e = .returned (sV (ahead ++ (l.flatMap f ++ behind))) ∧ Kept w w' := by
  obtain ⟨va, vc, rfl⟩ := hR.slice
  have HR := Lib.hid hR
  have HE := Lib.hid hE
  have HF := Lib.hid hf
  have HB := Lib.hid (show ahead.length + (l.flatMap f).length + behind.length ≤ 100000000000 by simpa [Nat.add_assoc] using hb)
  clear hR hE hf hb
  have gw := (Kept.refl (w.alloc (.cells #[sV kind, sV ahead, sV behind, .func (.func gf) #[] #[]] 64)))
  have d1 := gw.new 1 (v := sV ahead) rfl
  have d2 := gw.new 2 (v := sV behind) rfl
  have d3 := gw.new 3 (v := .func (.func gf) #[] #[]) rfl
  have K0 := Lib.hid ((Kept.refl w).alloc (.cells #[sV kind, sV ahead, sV behind, .func (.func gf) #[] #[]] 64))
  have hsz0 : (w.alloc (.cells #[sV kind, sV ahead, sV behind, .func (.func gf) #[] #[]] 64)).heap.size = w.heap.size + 1 := by simp
  clear gw
  go_enter Tryz.func35, Tryz.ntmps35
  go_upto_region 1 with (fail)
  generalize w.alloc (.cells #[sV kind, sV ahead, sV behind, .func (.func gf) #[] #[]] 64) = y0 at *
  have B0 := Lib.hid (bd_new y0)
  have KB := Lib.hid ((Kept.refl y0).alloc (.cells #[.pointer none, .slice none 0 0] 97))
  go_upto_region 2 with (fail)
  generalize hw : w.heap.size = wb at *
  have hbb : y0.heap.size = wb + 1 := hsz0
  rw [hbb] at B0
  clear hsz0
  generalize y0.alloc (.cells #[.pointer none, .slice none 0 0] 97) = y1 at *
  have e1 := KB.out.yes d1
  go_wp2_with fail
  refine (wstr_any (wb + 1) (wb + 1) [] ahead _ B0.out (by have := HB.out; simp only [List.length_append, List.length_nil]; omega) (by have := KB.out.size; omega)).mono ?_
  rintro e y2 ⟨rfl, q2⟩
  have B2 := Lib.hid q2.bd
  have K2 := Lib.hid (Wrote.kept q2 KB.out hbb)
  rw [List.nil_append] at B2
  clear q2 B0 KB e1
  go_wp2_with fail
  go_loopw [7, 13] (fun _ vi wr => ∃ i : Nat, i ≤ l.length ∧ vi = .int .i64 i ∧ Hid (Bd (wb + 1) (wb + 1) (ahead ++ (l.take i).flatMap f) wr) ∧ Hid (Kept y0 wr)) (fun _ vi _ => l.length - (intOf vi).toNat)
  case atStart => exact ⟨0, Nat.zero_le _, rfl, by simpa using B2, K2⟩
  case round =>
    obtain ⟨i, hi, rfl, hB, hK⟩ := hrel
    have e2 := hK.out.yes d2
    have e3 := hK.out.yes d3
    by_cases hlt : i < l.length
    · have hltI : (i : Int) < l.length := by omega
      have hiN : (i : Int) ≤ 1000000000000 := by omega
      obtain ⟨x, hx⟩ : ∃ x, l[i]? = some x := ⟨_, List.getElem?_eq_getElem hlt⟩
      obtain ⟨-, g, o, rfl, hc, p0, p1, p2, p3, p4, p5, p6⟩ := (HR.out.kept (K0.out.trans hK.out)).at hx
      have HX := Lib.hid (HF.out x (List.mem_of_getElem? hx))
      have HS := Lib.hid (flat_take f hx)
      have hlen := flat_part f l i
      have hlen2 := flat_part f l (i + 1)
      rw [HS.out, List.length_append] at hlen2
      clear hx
      have D0 := Lib.hid (Ib.new wr x)
      have kd := (Kept.refl wr).alloc (.cells (i7 x) 50)
      have B1 := Lib.hid (hB.out.kept kd)
      have K1 := Lib.hid (hK.out.trans kd)
      have ED := Lib.hid (HE.out.kept ((K0.out.trans hK.out).trans kd))
      generalize (l.take i).flatMap f = acc at *
      obtain ⟨a0, a1, a2, a3, a4, a5, a6⟩ := x
      simp only at p0 p1 p2 p3 p4 p5 p6
      have f3 := e3
      clear kd hK hB
      go_upto_region 6 with (fail)
      rw [show wr.alloc (.cells #[iV a0, iV a1, sV a2, sV a3, sV a4, sV a5, iV a6] 50) = wr.alloc (.cells (i7 ⟨a0, a1, a2, a3, a4, a5, a6⟩) 50) from rfl]
      generalize wr.heap.size = d at *
      generalize wr.alloc (.cells (i7 ⟨a0, a1, a2, a3, a4, a5, a6⟩) 50) = x0 at *
      have c2 := Ib.c2 D0.out
      have c3 := Ib.c3 D0.out
      have c4 := Ib.c4 D0.out
      have c5 := Ib.c5 D0.out
      have c6 := Ib.c6 D0.out
      have g3 := K1.out.yes d3
      simp only at c2 c3 c4 c5 c6
      go_wp2_with fail
      refine (HX.out _ ED.out).mono ?_
      rintro e x1 ⟨rfl, k1⟩
      have B3 := Lib.hid (B1.out.kept k1)
      have K3 := Lib.hid (K1.out.trans k1)
      clear k1 B1 K1 c2 c3 c4 c5 c6 g3 p0 p1 p2 p3 p4 p5 p6 e2 e3 f3
      generalize f ⟨a0, a1, a2, a3, a4, a5, a6⟩ = fx at *
      go_wp2_with fail
      refine (wstr_any (wb + 1) (wb + 1) (ahead ++ acc) fx _ B3.out (by have := HB.out; simp only [List.length_append, List.length_nil]; omega) (by have := K3.out.size; omega)).mono ?_
      rintro e x2 ⟨rfl, q2⟩
      have B4 := Lib.hid q2.bd
      have K4 := Lib.hid (Wrote.kept q2 K3.out hbb)
      clear q2
      go_wp2
      go_roundw
      case rel => exact ⟨i + 1, hlt, by go_num, Lib.hid (by rw [HS.out, ← List.append_assoc]; exact B4.out), K4⟩
      case measure => simp [intOf]; omega
    · obtain rfl : i = l.length := by omega
      have hltI : ¬ (l.length : Int) < l.length := by omega
      rw [List.take_length] at hB
      go_wp2_with fail
      refine (wstr_any (wb + 1) (wb + 1) (ahead ++ l.flatMap f) behind _ hB.out (by have := HB.out; simp only [List.length_append, List.length_nil]; omega) (by have := hK.out.size; omega)).mono ?_
      rintro e x2 ⟨rfl, q2⟩
      have B4 := Lib.hid q2.bd
      have K4 := Lib.hid (Wrote.kept q2 hK.out hbb)
      clear q2
      go_wp2_with fail
      refine (bstr_any (wb + 1) (wb + 1) _ _ B4.out (by have := K4.out.size; omega)).mono ?_
      rintro e x3 ⟨rfl, hb3⟩
      have K5 := Lib.hid (show Kept y0 x3 from Kept.of_below ((K4.out.below (Nat.le_refl _)).trans (by rw [hbb]; exact hb3)))
      go_wp2
      go_ret
      exact ⟨rfl, K0.out.trans K5.out⟩
set_option maxRecDepth 100000 in
set_option maxHeartbeats 1000000 in
theorem asText_any (w : World) : Calls Tryz.prog 34 #[] w fun e w' => e = .returned (wayV kT [] [] 72) ∧ Kept w w' := by
  have K0 := Lib.hid ((Kept.refl w).alloc (.cells #[sV kT, sV [], sV [], .func (.func 72) #[] #[]] 64))
  go_enter Tryz.func34, Tryz.ntmps34
  go_wp2
  exact bodyPost_ret (v := wayV kT [] [] 72) (by simp [results, Tryz.results34, go_sem, kT, kH, ulA, ulB, *]) rfl ⟨rfl, K0.out⟩
set_option maxRecDepth 100000 in
set_option maxHeartbeats 1000000 in
theorem asHtml_any (w : World) : Calls Tryz.prog 40 #[] w fun e w' => e = .returned (wayV kH ulA ulB 80) ∧ Kept w w' := by
  have K0 := Lib.hid ((Kept.refl w).alloc (.cells #[sV kH, sV ulA, sV ulB, .func (.func 80) #[] #[]] 64))
  go_enter Tryz.func40, Tryz.ntmps40
  go_wp2
  exact bodyPost_ret (v := wayV kH ulA ulB 80) (by simp [results, Tryz.results40, go_sem, kT, kH, ulA, ulB, *]) rfl ⟨rfl, K0.out⟩
def Sm (l : List It) : Prop := (∀ x ∈ l, x.title.length ≤ 1050000 ∧ x.link.length ≤ 1050000 ∧ x.text.length ≤ 1050000) ∧ (txt l).length ≤ 40000000 ∧ (htm l).length ≤ 40000000 ∧ l.length ≤ 100000000000
theorem asText_txt (l : List It) : [] ++ (l.flatMap par ++ []) = txt l := by unfold txt; simp
theorem wText_any (v : Value) (l : List It) (w : World) (hR : ItRd v l w) (hE : EnvP w) (hS : Sm l) : Calls Tryz.prog 35 #[wayV kT [] [] 72, v] w fun e w' => e = .returned (sV (txt l)) ∧ Kept w w' := by
  have := written_any kT [] [] 72 par v l w hR hE (enters_of Tryz.func72 (by kernel_rfl) rfl) (fun x hx w hE => paragraph_any x w hE (hS.1 x hx).1 (hS.1 x hx).2.1 (hS.1 x hx).2.2) (by have := hS.2.2.2; omega) (by rw [asText_txt]; have := hS.2.1; omega)
  rw [asText_txt] at this
  exact this
theorem wHtml_any (v : Value) (l : List It) (w : World) (hR : ItRd v l w) (hE : EnvP w) (hS : Sm l) : Calls Tryz.prog 35 #[wayV kH ulA ulB 80, v] w fun e w' => e = .returned (sV (htm l)) ∧ Kept w w' :=
  written_any kH ulA ulB 80 li v l w hR hE (enters_of Tryz.func80 (by kernel_rfl) rfl) (fun x hx w hE => listed_any x w (hS.1 x hx).1 (hS.1 x hx).2.1) (by have := hS.2.2.2; omega) (by have := hS.2.2.1; unfold htm at this; omega)
set_option maxRecDepth 100000 in
set_option maxHeartbeats 1000000 in
theorem text_any (v : Value) (l : List It) (w : World) (hR : ItRd v l w) (hE : EnvP w) (hS : Sm l) : Calls Tryz.prog 13 #[v] w fun e w' => e = .returned (sV (txt l)) ∧ Kept w w' := by
  have HC := Lib.hid (fun w hR hE => wText_any v l w hR hE hS)
  have HR := Lib.hid hR
  have HE := Lib.hid hE
  clear hR hE hS
  go_enter Tryz.func13, Tryz.ntmps13
  go_wp2_with fail
  refine (asText_any _).mono ?_
  rintro e y ⟨rfl, k⟩
  go_wp2_with fail
  refine (HC.out _ (HR.out.kept k) (HE.out.kept k)).mono ?_
  rintro e z ⟨rfl, k2⟩
  have KK := Lib.hid (k.trans k2)
  clear k k2
  go_wp2
  go_ret
  exact ⟨rfl, KK.out⟩
set_option maxRecDepth 100000 in
set_option maxHeartbeats 1000000 in
theorem html_any (v : Value) (l : List It) (w : World) (hR : ItRd v l w) (hE : EnvP w) (hS : Sm l) : Calls Tryz.prog 15 #[v] w fun e w' => e = .returned (sV (htm l)) ∧ Kept w w' := by
  have HC := Lib.hid (fun w hR hE => wHtml_any v l w hR hE hS)
  have HR := Lib.hid hR
  have HE := Lib.hid hE
  clear hR hE hS
  go_enter Tryz.func15, Tryz.ntmps15
  go_wp2_with fail
  refine (asHtml_any _).mono ?_
  rintro e y ⟨rfl, k⟩
  go_wp2_with fail
  refine (HC.out _ (HR.out.kept k) (HE.out.kept k)).mono ?_
  rintro e z ⟨rfl, k2⟩
  have KK := Lib.hid (k.trans k2)
  clear k k2
  go_wp2
  go_ret
  exact ⟨rfl, KK.out⟩
def Fw (l : List It) (n : Nat) : Prop := l.length ≤ n ∧ ∀ x ∈ l, x.id.length ≤ 300 ∧ x.title.length ≤ 300 ∧ x.link.length ≤ 300 ∧ x.text.length ≤ 300
theorem size_fw : ∀ {l : List It}, (∀ x ∈ l, x.id.length ≤ 300 ∧ x.title.length ≤ 300 ∧ x.link.length ≤ 300 ∧ x.text.length ≤ 300) → size l ≤ 900 * l.length
  | [], _ => by simp [size]
  | x :: l, h => by
    have h1 := size_fw (fun y hy => h y (List.mem_cons_of_mem _ hy))
    have h2 := h x (by simp)
    rw [size, List.length_cons]; omega
theorem Fw.txt {l : List It} {n : Nat} (h : Fw l n) : (txt l).length ≤ 3630 * l.length := by
  have h1 := txt_len l
  have h2 := size_fw h.2
  omega
theorem Fw.htm {l : List It} {n : Nat} (h : Fw l n) : (htm l).length ≤ 5485 * l.length + 11 := by
  have h1 := htm_len l
  have h2 := size_fw h.2
  omega
theorem Fw.sm {l : List It} {n : Nat} (h : Fw l n) (hn : n ≤ 100) : Sm l := by
  have h1 := h.txt
  have h2 := h.htm
  have h3 := h.1
  refine ⟨fun x hx => ?_, by omega, by omega, by omega⟩
  have := h.2 x hx
  omega
end Go.Proofs.YtjlpkgipdkjfhaaGreatDoor.Dg
namespace Go.Proofs.YtjlpkgipdkjfhaaGreatDoor.Bk.Dg
open Go.ChangeShapes Go.WideShapes Go.ChangeAt Go.RowKit Go.Shelf
open Go.Proofs.YtjlpkgipdkjfhaaGreatDoor.Dg
structure ItA (v : Value) (l : List It) (w : World) : Prop where
  rd : ItRd v l w
  n : l.length ≤ 9223372036854775807
  b : ∀ x ∈ l, x.id.length ≤ 9223372036854775807 ∧ x.title.length ≤ 9223372036854775807 ∧ x.link.length ≤ 9223372036854775807 ∧ x.text.length ≤ 9223372036854775807
end Go.Proofs.YtjlpkgipdkjfhaaGreatDoor.Bk.Dg
