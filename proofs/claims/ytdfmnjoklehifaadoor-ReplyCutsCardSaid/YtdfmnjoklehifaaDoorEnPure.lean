/- Plain mathematics of entities and blanks: the words that both the program's and the document's answers are told in. -/
import Derived.RowKit
import Derived.KernelRfl
set_option linter.unusedSimpArgs false
set_option linter.unusedVariables false
namespace Go.Proofs.YtdfmnjoklehifaaDoor.En
/-- may a number be a sign -/
def okN (n : Int) : Bool := decide (n = 9 ∨ n = 10 ∨ n = 13 ∨ (32 ≤ n ∧ n ≤ 55295) ∨ (57344 ≤ n ∧ n ≤ 65533) ∨ (65536 ≤ n ∧ n ≤ 1114111))
def by8 (n : Int) : UInt8 := UInt8.ofNat n.toNat
/-- a sign's bytes -/
def utf (n : Int) : List UInt8 :=
  if n < 128 then [by8 n] else if n < 2048 then [by8 (192 + n / 64), by8 (128 + n % 64)]
  else if n < 65536 then [by8 (224 + n / 4096), by8 (128 + n / 64 % 64), by8 (128 + n % 64)]
  else [by8 (240 + n / 262144), by8 (128 + n / 4096 % 64), by8 (128 + n / 64 % 64), by8 (128 + n % 64)]
def rn (n : Int) : Option (List UInt8) := if okN n = true then some (utf n) else none
/-- a digit's number to the base 16 -/
def dg (c : UInt8) : Int := if 48 ≤ c.toNat ∧ c.toNat ≤ 57 then (c.toNat : Int) - 48 else if 97 ≤ c.toNat ∧ c.toNat ≤ 102 then (c.toNat : Int) - 87 else if 65 ≤ c.toNat ∧ c.toNat ≤ 70 then (c.toNat : Int) - 55 else 99
theorem dg_bd (c : UInt8) : 0 ≤ dg c ∧ dg c ≤ 99 := by unfold dg; split <;> (try split) <;> (try split) <;> omega
/-- a number of digits -/
def numF (base acc : Int) : List UInt8 → Option Int
  | [] => some acc
  | c :: r => if dg c < base then numF base (base * acc + dg c) r else none
def num (base : Int) (l : List UInt8) : Option Int := if l = [] then none else numF base 0 l
/-- the sign of an entity's body -/
def sg (b : List UInt8) : Option (List UInt8) :=
  if b = [97, 109, 112] then some [38] else if b = [108, 116] then some [60] else if b = [103, 116] then some [62]
  else if b = [113, 117, 111, 116] then some [34] else if b = [97, 112, 111, 115] then some [39]
  else match b with
    | 35 :: 120 :: r => (num 16 r).bind rn
    | 35 :: r => (num 10 r).bind rn
    | _ => none
/-- the body of the entity that begins -/
def bdF : Nat → List UInt8 → List UInt8 → Option (List UInt8)
  | 0, _, _ => none
  | _ + 1, _, [] => none
  | k + 1, acc, c :: r => if c = 38 then none else if c = 59 then (if acc = [] then none else some acc) else bdF k (acc ++ [c]) r
def en (r : List UInt8) : Option (List UInt8 × Nat) := (bdF 11 [] r).bind fun b => (sg b).map fun x => (x, b.length + 1)
/-- a text gone through, and whether all was fine -/
def goF : Nat → List UInt8 → List UInt8 × Bool
  | 0, _ => ([], true)
  | _ + 1, [] => ([], true)
  | n + 1, c :: r =>
    if c = 38 then
      match en r with
      | some (x, k) => (x ++ (goF n (r.drop k)).1, (goF n (r.drop k)).2)
      | none => (c :: (goF n r).1, false)
    else (c :: (goF n r).1, (goF n r).2)
def gone (l : List UInt8) : List UInt8 × Bool := goF l.length l
def encC (c : UInt8) : List UInt8 := if c = 38 then [38, 97, 109, 112, 59] else if c = 60 then [38, 108, 116, 59] else if c = 62 then [38, 103, 116, 59] else if c = 34 then [38, 113, 117, 111, 116, 59] else [c]
def enc (l : List UInt8) : List UInt8 := l.flatMap encC
def spB (c : UInt8) : Bool := c.toNat == 9 || c.toNat == 10 || c.toNat == 13 || c.toNat == 32
/-- the words with a blank between: has something come, and is a blank due -/
def trF : Bool → Bool → List UInt8 → List UInt8
  | _, _, [] => []
  | s, gap, c :: r => if spB c = true then trF s s r else (if gap = true then [32, c] else [c]) ++ trF true false r
def tr (l : List UInt8) : List UInt8 := trF false false l
theorem utf_le (n : Int) : (utf n).length ≤ 4 := by unfold utf; split <;> (try split) <;> (try split) <;> simp
theorem num_ne {base : Int} {l : List UInt8} {n : Int} (h : num base l = some n) : l ≠ [] := fun e => by rw [e] at h; cases h
/-- a sign is no longer than its entity's body, and two bytes -/
theorem sg_len {b x : List UInt8} (h : sg b = some x) : x.length ≤ b.length + 2 := by
  unfold sg at h
  by_cases e1 : b = [97, 109, 112]
  · rw [if_pos e1] at h; cases h; rw [e1]; simp
  rw [if_neg e1] at h
  by_cases e2 : b = [108, 116]
  · rw [if_pos e2] at h; cases h; rw [e2]; simp
  rw [if_neg e2] at h
  by_cases e3 : b = [103, 116]
  · rw [if_pos e3] at h; cases h; rw [e3]; simp
  rw [if_neg e3] at h
  by_cases e4 : b = [113, 117, 111, 116]
  · rw [if_pos e4] at h; cases h; rw [e4]; simp
  rw [if_neg e4] at h
  by_cases e5 : b = [97, 112, 111, 115]
  · rw [if_pos e5] at h; cases h; rw [e5]; simp
  rw [if_neg e5] at h
  have key : ∀ {m : Int} {y : List UInt8}, rn m = some y → y.length ≤ 4 := fun {m y} q => by
    unfold rn at q
    split at q
    · cases q; exact utf_le m
    · cases q
  split at h
  · rename_i r
    cases hn : num 16 r with
    | none => rw [hn] at h; cases h
    | some m => rw [hn] at h; have := key h; have := List.length_pos_iff.2 (num_ne hn); simp; omega
  · rename_i r _
    cases hn : num 10 r with
    | none => rw [hn] at h; cases h
    | some m => rw [hn] at h; have := key h; have := List.length_pos_iff.2 (num_ne hn); simp; omega
  · cases h
/-! going through a text -/
theorem goF_more : ∀ (n m : Nat) (l : List UInt8), l.length ≤ n → n ≤ m → goF m l = goF n l
  | 0, 0, _, _, _ => rfl
  | 0, m + 1, l, h, _ => by
    obtain rfl : l = [] := List.length_eq_zero_iff.1 (by omega)
    rfl
  | n + 1, m + 1, [], _, _ => rfl
  | n + 1, m + 1, c :: r, h, h2 => by
    simp only [List.length_cons] at h
    have e1 : goF m r = goF n r := goF_more n m r (by omega) (by omega)
    have e2 : ∀ k, goF m (r.drop k) = goF n (r.drop k) := fun k => goF_more n m _ (by rw [List.length_drop]; omega) (by omega)
    rw [goF, goF, e1]
    split
    · cases en r with
      | none => rfl
      | some p => obtain ⟨x, k⟩ := p; simp only [e2]
    · rfl
theorem gone_nil : gone [] = ([], true) := rfl
theorem gone_cons (c : UInt8) (r : List UInt8) : gone (c :: r) = if c = 38 then (match en r with | some (x, k) => (x ++ (gone (r.drop k)).1, (gone (r.drop k)).2) | none => (c :: (gone r).1, false)) else (c :: (gone r).1, (gone r).2) := by
  have e : ∀ k, goF r.length (r.drop k) = gone (r.drop k) := fun k => goF_more _ _ _ (Nat.le_refl _) (by rw [List.length_drop]; omega)
  unfold gone at e ⊢
  rw [List.length_cons, goF]
  simp only [e]
theorem gone_plain {l : List UInt8} (h : (38 : UInt8) ∉ l) : gone l = (l, true) := by
  induction l with
  | nil => rfl
  | cons c r ih =>
    simp only [List.mem_cons, not_or] at h
    rw [gone_cons, if_neg (fun e => h.1 e.symm), ih h.2]
theorem bdF_app (b : List UInt8) : ∀ (n : Nat) (acc l x : List UInt8), bdF n acc l = some x → bdF n acc (l ++ b) = some x
  | 0, _, _, _, h => by simp [bdF] at h
  | n + 1, _, [], _, h => by simp [bdF] at h
  | n + 1, acc, c :: r, x, h => by
    rw [List.cons_append, bdF] at *
    by_cases h1 : c = 38
    · rw [if_pos h1] at h; cases h
    · rw [if_neg h1] at h ⊢
      by_cases h2 : c = 59
      · rw [if_pos h2] at h ⊢; exact h
      · rw [if_neg h2] at h ⊢; exact bdF_app b n _ r x h
theorem bdF_len : ∀ (n : Nat) (acc l x : List UInt8), bdF n acc l = some x → x.length + 1 ≤ acc.length + l.length ∧ acc.length ≤ x.length
  | 0, _, _, _, h => by simp [bdF] at h
  | n + 1, _, [], _, h => by simp [bdF] at h
  | n + 1, acc, c :: r, x, h => by
    rw [bdF] at h
    by_cases h1 : c = 38
    · rw [if_pos h1] at h; cases h
    · rw [if_neg h1] at h
      by_cases h2 : c = 59
      · rw [if_pos h2] at h
        by_cases h3 : acc = []
        · rw [if_pos h3] at h; cases h
        · rw [if_neg h3] at h; cases h; simp
      · rw [if_neg h2] at h
        have := bdF_len n _ r x h
        simp at this ⊢; omega
theorem en_app {r x : List UInt8} {k : Nat} (b : List UInt8) (h : en r = some (x, k)) : en (r ++ b) = some (x, k) ∧ k ≤ r.length := by
  unfold en at h ⊢
  cases hb : bdF 11 [] r with
  | none => rw [hb] at h; cases h
  | some y =>
    rw [hb] at h
    rw [bdF_app b _ _ _ _ hb]
    refine ⟨h, ?_⟩
    have hl := bdF_len _ _ _ _ hb
    simp only [Option.bind_some, Option.map_eq_some_iff, Prod.mk.injEq] at h
    obtain ⟨_, _, _, rfl⟩ := h
    simp at hl; omega
theorem gone_app_n (b : List UInt8) : ∀ (n : Nat) (l : List UInt8), l.length ≤ n → (gone l).2 = true → gone (l ++ b) = ((gone l).1 ++ (gone b).1, (gone b).2)
  | _, [], _, _ => by simp [gone_nil]
  | 0, c :: r, h, _ => by simp at h
  | n + 1, c :: r, h, hf => by
    simp only [List.length_cons] at h
    rw [List.cons_append, gone_cons] at *
    by_cases hc : c = 38
    · rw [if_pos hc] at hf ⊢
      rw [gone_cons, if_pos hc]
      cases he : en r with
      | none => rw [he] at hf; cases hf
      | some p =>
        obtain ⟨x, k⟩ := p
        rw [he] at hf
        obtain ⟨e1, e2⟩ := en_app b he
        rw [e1]
        simp only at hf ⊢
        rw [List.drop_append_of_le_length e2, gone_app_n b n _ (by rw [List.length_drop]; omega) hf]
        simp
    · rw [if_neg hc] at hf ⊢
      rw [gone_cons, if_neg hc, gone_app_n b n r (by omega) hf]
      simp
theorem gone_app {l : List UInt8} (b : List UInt8) (h : (gone l).2 = true) : gone (l ++ b) = ((gone l).1 ++ (gone b).1, (gone b).2) := gone_app_n b _ l (Nat.le_refl _) h
/-- what is encoded is decoded -/
theorem gone_encC (c : UInt8) : gone (encC c) = ([c], true) := by
  have key : ∀ n : Fin 256, gone (encC (UInt8.ofNat n)) = ([UInt8.ofNat n], true) := by decide +kernel
  have := key ⟨c.toNat, c.toNat_lt⟩
  simpa using this
theorem gone_enc (l : List UInt8) : gone (enc l) = (l, true) := by
  induction l with
  | nil => rfl
  | cons c r ih =>
    show gone (encC c ++ enc r) = _
    rw [gone_app _ (by rw [gone_encC]), gone_encC, ih]; rfl
theorem enc_none (l : List UInt8) : ∀ c ∈ enc l, c ≠ 60 ∧ c ≠ 62 ∧ c ≠ 34 := by
  intro c hc
  unfold enc at hc
  rw [List.mem_flatMap] at hc
  obtain ⟨d, _, hd⟩ := hc
  have key : ∀ n : Fin 256, ∀ c ∈ encC (UInt8.ofNat n), c ≠ 60 ∧ c ≠ 62 ∧ c ≠ 34 := by decide +kernel
  have := key ⟨d.toNat, d.toNat_lt⟩ c (by simpa using hd)
  exact this
theorem encC_len (c : UInt8) : (encC c).length ≤ 6 := by unfold encC; split <;> (try split) <;> (try split) <;> (try split) <;> simp
theorem enc_len (l : List UInt8) : (enc l).length ≤ 6 * l.length := by
  induction l with
  | nil => simp [enc]
  | cons c r ih =>
    have := encC_len c
    have e : enc (c :: r) = encC c ++ enc r := rfl
    rw [e, List.length_append, List.length_cons]; omega
/-! blanks -/
theorem trF_sp {s g : Bool} {c : UInt8} {r : List UInt8} (h : spB c = true) : trF s g (c :: r) = trF s s r := by rw [trF, if_pos h]
theorem trF_no {s g : Bool} {c : UInt8} {r : List UInt8} (h : spB c = false) : trF s g (c :: r) = (if g = true then [32, c] else [c]) ++ trF true false r := by rw [trF, if_neg (by rw [h]; decide)]
theorem sp32 : spB 32 = true := by decide
/-- no blank at the ends, no two together, none but 32 -/
def hdN : List UInt8 → Bool
  | [] => false
  | d :: _ => !spB d
def nb : Bool → List UInt8 → Bool
  | _, [] => true
  | p, c :: r => if spB c = true then c == 32 && p && hdN r && nb false r else nb true r
theorem nb_trF : ∀ (l : List UInt8) (s g : Bool), (g = true → s = true) → nb s (trF s g l) = true
  | [], _, _, _ => rfl
  | c :: r, s, g, h => by
    cases hc : spB c with
    | true => rw [trF_sp hc]; exact nb_trF r s s (fun q => q)
    | false =>
      rw [trF_no hc]
      have ih := nb_trF r true false (fun q => by cases q)
      cases g with
      | true =>
        rw [if_pos rfl]
        show nb s (32 :: c :: trF true false r) = true
        rw [nb, if_pos sp32, h rfl, nb, if_neg (by rw [hc]; decide), ih]
        simp [hc, hdN]
      | false =>
        rw [if_neg (by decide)]
        show nb s (c :: trF true false r) = true
        rw [nb, if_neg (by rw [hc]; decide), ih]
theorem trF_nb : ∀ (l : List UInt8) (p : Bool), nb p l = true → trF p false l = l
  | [], _, _ => rfl
  | c :: r, p, h => by
    rw [nb] at h
    cases hc : spB c with
    | false =>
      rw [if_neg (by rw [hc]; decide)] at h
      rw [trF_no hc, if_neg (by decide), trF_nb r true h]; rfl
    | true =>
      rw [if_pos hc] at h
      simp only [Bool.and_eq_true, beq_iff_eq] at h
      obtain ⟨⟨⟨h1, h2⟩, h3⟩, h4⟩ := h
      subst h1 h2
      cases r with
      | nil => cases h3
      | cons d r' =>
        simp only [hdN, Bool.not_eq_true'] at h3
        rw [nb, if_neg (by rw [h3]; decide)] at h4
        rw [trF_sp hc, trF_no h3, if_pos rfl, trF_nb r' true h4]; rfl
theorem tr_tr (l : List UInt8) : tr (tr l) = tr l := trF_nb _ _ (nb_trF l false false (fun q => q))
theorem nb_at : ∀ (l : List UInt8) (p : Bool), nb p l = true → ∀ (i : Nat) (c : UInt8), l[i]? = some c → spB c = true → c = 32 ∧ i + 1 < l.length ∧ (i = 0 → p = true) ∧ (∀ d, 1 ≤ i → l[i - 1]? = some d → spB d = false)
  | [], _, _, i, c, hi, _ => by simp at hi
  | a :: r, p, h, i, c, hi, hc => by
    rw [nb] at h
    cases i with
    | zero =>
      simp only [List.getElem?_cons_zero, Option.some.injEq] at hi
      subst hi
      rw [if_pos hc] at h
      simp only [Bool.and_eq_true, beq_iff_eq] at h
      obtain ⟨⟨⟨h1, h2⟩, h3⟩, h4⟩ := h
      refine ⟨h1, ?_, fun _ => h2, fun d q => by omega⟩
      cases r with
      | nil => cases h3
      | cons => simp
    | succ i =>
      simp only [List.getElem?_cons_succ] at hi
      have hnb : nb (!spB a) r = true := by
        cases ha : spB a with
        | true => rw [if_pos ha] at h; simp only [Bool.and_eq_true] at h; exact h.2
        | false => rw [if_neg (by rw [ha]; decide)] at h; exact h
      obtain ⟨q1, q2, q3, q4⟩ := nb_at r _ hnb i c hi hc
      refine ⟨q1, by simp; omega, fun e => by omega, fun d _ hd => ?_⟩
      cases i with
      | zero =>
        simp only [Nat.zero_add, Nat.sub_self, List.getElem?_cons_zero, Option.some.injEq] at hd
        subst hd
        have := q3 rfl
        simpa using this
      | succ i =>
        have e : i + 1 + 1 - 1 = (i + 1 - 1) + 1 := by omega
        rw [e, List.getElem?_cons_succ] at hd
        exact q4 d (by omega) hd
theorem tr_at (l : List UInt8) (i : Nat) (c : UInt8) (h : (tr l)[i]? = some c) (hc : spB c = true) : c = 32 ∧ i ≠ 0 ∧ i + 1 < (tr l).length ∧ (∀ d, (tr l)[i - 1]? = some d → spB d = false) := by
  obtain ⟨h1, h2, h3, h4⟩ := nb_at _ _ (nb_trF l false false (fun q => q)) i c h hc
  have h0 : i ≠ 0 := fun e => by have := h3 e; cases this
  exact ⟨h1, h0, h2, fun d hd => h4 d (by omega) hd⟩
/-! two texts with a blank between -/
theorem trF_cut : ∀ (a : List UInt8) (s g : Bool) (b : List UInt8), trF s g (a ++ 10 :: b) = trF s g a ++ trF (s || a.any fun c => !spB c) (s || a.any fun c => !spB c) b
  | [], s, g, b => by
    rw [List.nil_append, trF_sp (by decide)]
    simp [trF]
  | c :: r, s, g, b => by
    rw [List.cons_append]
    cases hc : spB c with
    | true => rw [trF_sp hc, trF_sp hc, trF_cut r]; simp [hc]
    | false => rw [trF_no hc, trF_no hc, trF_cut r]; simp [hc]
theorem trF_due : ∀ (b : List UInt8), trF true true b = if tr b = [] then [] else 32 :: tr b
  | [] => rfl
  | c :: r => by
    unfold tr
    cases hc : spB c with
    | true => rw [trF_sp hc, trF_sp hc]; exact trF_due r
    | false => rw [trF_no hc, trF_no hc]; simp
theorem trF_nil : ∀ (a : List UInt8) (s g : Bool), trF s g a = [] ↔ (a.any fun c => !spB c) = false
  | [], _, _ => by simp [trF]
  | c :: r, s, g => by
    cases hc : spB c with
    | true => rw [trF_sp hc, trF_nil r]; simp [hc]
    | false => rw [trF_no hc]; cases g <;> simp [hc]
theorem tr_cut (a b : List UInt8) : tr (a ++ 10 :: b) = if tr a = [] ∨ tr b = [] then tr a ++ tr b else tr a ++ 32 :: tr b := by
  have h := trF_cut a false false b
  have hn := trF_nil a false false
  unfold tr at *
  rw [h]
  cases ha : a.any fun c => !spB c with
  | false => rw [if_pos (Or.inl (hn.2 ha))]; rfl
  | true =>
    have hne : ¬ trF false false a = [] := fun e => by rw [hn.1 e] at ha; cases ha
    have hd := trF_due b
    unfold tr at hd
    simp only [Bool.false_or, hd]
    by_cases hb : trF false false b = []
    · rw [if_pos hb, if_pos (Or.inr hb), hb]
    · rw [if_neg hb, if_neg (by rintro (q | q); exact hne q; exact hb q)]
theorem trF_len : ∀ (l : List UInt8) (s g : Bool), (trF s g l).length ≤ 2 * l.length
  | [], _, _ => by simp [trF]
  | c :: r, s, g => by
    cases hc : spB c with
    | true => rw [trF_sp hc]; have := trF_len r s s; simp; omega
    | false => rw [trF_no hc]; have := trF_len r true false; cases g <;> simp <;> omega
/-! numbers -/
theorem bdF_run (r : List UInt8) : ∀ (d acc : List UInt8) (n : Nat), (∀ c ∈ d, c ≠ 38 ∧ c ≠ 59) → d.length < n → acc ++ d ≠ [] → bdF n acc (d ++ 59 :: r) = some (acc ++ d)
  | [], acc, n, _, hn, ha => by
    cases n with
    | zero => simp at hn
    | succ n =>
      rw [List.append_nil] at ha ⊢
      rw [List.nil_append, bdF, if_neg (by decide), if_pos rfl, if_neg ha]
  | c :: d, acc, n, hd, hn, ha => by
    cases n with
    | zero => simp at hn
    | succ n =>
      obtain ⟨h1, h2⟩ := hd c (by simp)
      rw [List.cons_append, bdF, if_neg h1, if_neg h2, bdF_run r d (acc ++ [c]) n (fun x hx => hd x (List.mem_cons_of_mem _ hx)) (by simp at hn; omega) (by simp)]
      simp
theorem utf_len {n : Int} (h : okN n = true) : (utf n).length = if n < 128 then 1 else if n < 2048 then 2 else if n < 65536 then 3 else 4 := by
  unfold utf; split <;> (try split) <;> (try split) <;> rfl
/-- a digit's sign -/
def dgc (v : Int) : UInt8 := if v < 10 then by8 (48 + v) else by8 (87 + v)
def isD (c : UInt8) : Bool := c != 38 && c != 59 && c != 120
theorem dgc_is {v : Int} (h0 : 0 ≤ v) (h1 : v < 16) : dg (dgc v) = v ∧ isD (dgc v) = true := by
  have key : ∀ n : Fin 16, dg (dgc (n.val : Int)) = (n.val : Int) ∧ isD (dgc (n.val : Int)) = true := by decide +kernel
  have := key ⟨v.toNat, by omega⟩
  simp only at this
  rw [show ((v.toNat : Nat) : Int) = v by omega] at this
  exact this
/-- the digits behind, and what is left ahead of them -/
structure NumI (base n k : Int) (d : List UInt8) : Prop where
  lo : 0 ≤ k
  hi : k ≤ n
  val : numF base k d = some n
  dig : ∀ c ∈ d, isD c = true
  len : (d = [] ∧ k = n) ∨ (1 ≤ d.length ∧ base ^ (d.length - 1) ≤ n ∧ k * base ^ d.length ≤ n)
theorem NumI.start {base n : Int} (h : 0 ≤ n) : NumI base n n [] := ⟨h, Int.le_refl _, rfl, (fun c hc => by cases hc), Or.inl ⟨rfl, rfl⟩⟩
theorem NumI.next {base n k : Int} {d : List UInt8} (h : NumI base n k d) (hk : 0 < k) (b1 : 2 ≤ base) (b2 : base ≤ 16) : NumI base n (k / base) (dgc (k % base) :: d) := by
  have m1 := Int.emod_nonneg k (show base ≠ 0 by omega)
  have m2 := Int.emod_lt_of_pos k (show 0 < base by omega)
  have m3 := Int.mul_ediv_add_emod k base
  obtain ⟨e1, e2⟩ := dgc_is m1 (show k % base < 16 by omega)
  have hq0 : 0 ≤ k / base := Int.ediv_nonneg h.lo (by omega)
  have hq1 : k / base ≤ k := Int.ediv_le_self _ h.lo
  refine ⟨hq0, Int.le_trans hq1 h.hi, ?_, ?_, Or.inr ?_⟩
  · rw [numF, e1, if_pos m2, m3]; exact h.val
  · intro c hc
    rcases List.mem_cons.1 hc with rfl | hc
    · exact e2
    · exact h.dig c hc
  · have hpos : ∀ m : Nat, 0 < base ^ m := fun m => Int.pow_pos (by omega)
    have kb : k / base * base ≤ k := Int.ediv_mul_le _ (by omega)
    refine ⟨by simp, ?_, ?_⟩
    · rw [List.length_cons, Nat.add_sub_cancel]
      rcases h.len with ⟨rfl, rfl⟩ | ⟨q1, q2, q3⟩
      · simp; omega
      · exact Int.le_trans (Int.le_trans (by rw [Int.one_mul]; exact Int.le_refl _) (Int.mul_le_mul_of_nonneg_right (show 1 ≤ k by omega) (Int.le_of_lt (hpos _)))) q3
    · rw [List.length_cons, Int.pow_succ, Int.mul_comm (base ^ d.length) base, ← Int.mul_assoc]
      rcases h.len with ⟨rfl, rfl⟩ | ⟨q1, q2, q3⟩
      · simpa using kb
      · exact Int.le_trans (Int.mul_le_mul_of_nonneg_right kb (Int.le_of_lt (hpos _))) q3
theorem NumI.done {base n k : Int} {d : List UInt8} (h : NumI base n k d) (hk : ¬ 0 < k) (hn : 1 ≤ n) (hn2 : n ≤ 1114111) (b : base = 10 ∨ base = 16) : num base d = some n ∧ d ≠ [] ∧ d.length ≤ 7 := by
  have h0 : k = 0 := by have := h.lo; omega
  subst h0
  rcases h.len with ⟨_, q⟩ | ⟨q1, q2, q3⟩
  · omega
  · have hne : d ≠ [] := fun e => by rw [e] at q1; simp at q1
    refine ⟨by unfold En.num; rw [if_neg hne]; exact h.val, hne, ?_⟩
    by_cases hl : d.length ≤ 7
    · exact hl
    · exfalso
      have e : d.length - 1 = 7 + (d.length - 8) := by omega
      rw [e, Int.pow_add] at q2
      have p1 : (1 : Int) ≤ base ^ (d.length - 8) := by
        have : 0 < base ^ (d.length - 8) := Int.pow_pos (by omega)
        omega
      have p2 : (10000000 : Int) ≤ base ^ 7 := by rcases b with rfl | rfl <;> decide
      have p3 : base ^ 7 * 1 ≤ base ^ 7 * base ^ (d.length - 8) := Int.mul_le_mul_of_nonneg_left p1 (by omega)
      omega
theorem isD_of {c : UInt8} (h : isD c = true) : c ≠ 38 ∧ c ≠ 59 ∧ c ≠ 120 := by
  unfold isD at h
  simp only [Bool.and_eq_true, bne_iff_ne] at h
  exact ⟨h.1.1, h.1.2, h.2⟩
theorem sg_dec {d : List UInt8} {n : Int} (hd : ∀ c ∈ d, isD c = true) (hn : num 10 d = some n) (ho : okN n = true) : sg (35 :: d) = some (utf n) := by
  unfold sg
  rw [if_neg (by simp), if_neg (by simp), if_neg (by simp), if_neg (by simp), if_neg (by simp)]
  cases d with
  | nil => cases hn
  | cons c r =>
    have := (isD_of (hd c (by simp))).2.2
    split
    · rename_i h; simp only [List.cons.injEq] at h; exact absurd h.2.1 this
    · rename_i h
      simp only [List.cons.injEq, true_and] at h
      subst h
      rw [hn]
      simp [rn, ho]
    · rename_i _ h2
      exact absurd rfl (h2 (c :: r))
theorem sg_hex {d : List UInt8} {n : Int} (hn : num 16 d = some n) (ho : okN n = true) : sg (35 :: 120 :: d) = some (utf n) := by
  unfold sg
  rw [if_neg (by simp), if_neg (by simp), if_neg (by simp), if_neg (by simp), if_neg (by simp)]
  simp [hn, rn, ho]
theorem gone_ent {b x : List UInt8} (h1 : ∀ c ∈ b, c ≠ 38 ∧ c ≠ 59) (h2 : b.length ≤ 10) (h3 : b ≠ []) (h4 : sg b = some x) : gone (38 :: (b ++ [59])) = (x, true) := by
  have e : en (b ++ [59]) = some (x, b.length + 1) := by
    unfold en
    rw [bdF_run [] b [] 11 h1 (by omega) (by simpa using h3)]
    simp [h4]
  rw [gone_cons, if_pos rfl, e]
  simp only
  rw [List.drop_eq_nil_of_le (by simp), gone_nil]
  simp
theorem gone_dec {d : List UInt8} {n : Int} (hd : ∀ c ∈ d, isD c = true) (hl : d.length ≤ 7) (hn : num 10 d = some n) (ho : okN n = true) : gone (38 :: (35 :: d ++ [59])) = (utf n, true) :=
  gone_ent (fun c hc => by rcases List.mem_cons.1 hc with rfl | hc; (· decide); exact ⟨(isD_of (hd c hc)).1, (isD_of (hd c hc)).2.1⟩) (by simp; omega) (by simp) (sg_dec hd hn ho)
theorem gone_hex {d : List UInt8} {n : Int} (hd : ∀ c ∈ d, isD c = true) (hl : d.length ≤ 7) (hn : num 16 d = some n) (ho : okN n = true) : gone (38 :: (35 :: 120 :: d ++ [59])) = (utf n, true) :=
  gone_ent (fun c hc => by rcases List.mem_cons.1 hc with rfl | hc; (· decide); rcases List.mem_cons.1 hc with rfl | hc; (· decide); exact ⟨(isD_of (hd c hc)).1, (isD_of (hd c hc)).2.1⟩) (by simp; omega) (by simp) (sg_hex hn ho)
theorem gone_len : ∀ (n : Nat) (l : List UInt8), l.length ≤ n → (gone l).1.length ≤ l.length := by
  intro n
  induction n with
  | zero =>
    intro l hl
    obtain rfl : l = [] := List.length_eq_zero_iff.1 (by omega)
    simp [gone_nil]
  | succ n ih =>
    intro l hl
    cases l with
    | nil => simp [gone_nil]
    | cons c r =>
      simp only [List.length_cons] at hl
      rw [gone_cons]
      by_cases hc : c = 38
      · rw [if_pos hc]
        cases he : en r with
        | none => simp only [List.length_cons]; have := ih r (by omega); omega
        | some p =>
          obtain ⟨x, k⟩ := p
          have hk := (en_app [] he).2
          have hx : x.length ≤ k + 1 := by
            unfold en at he
            cases hb : bdF 11 [] r with
            | none => rw [hb] at he; cases he
            | some y =>
              rw [hb] at he
              simp only [Option.bind_some, Option.map_eq_some_iff, Prod.mk.injEq] at he
              obtain ⟨x', h1, rfl, rfl⟩ := he
              have := sg_len h1
              omega
          simp only [List.length_append, List.length_cons]
          have := ih (r.drop k) (by rw [List.length_drop]; omega)
          rw [List.length_drop] at this
          omega
      · rw [if_neg hc]; simp only [List.length_cons]; have := ih r (by omega); omega
end Go.Proofs.YtdfmnjoklehifaaDoor.En
