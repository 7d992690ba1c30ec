/- Plain mathematics of signs that are read one behind another: a sign's bytes at a place of a text, and what the program's loops have read so far. -/
import Derived.Test.YtdfmnjoklehifaaDoorEnPure
import Derived.Lib.TrimUEq
set_option linter.unusedSimpArgs false
set_option linter.unusedVariables false
namespace Go.Proofs.YtdfmnjoklehifaaDoor.En
/-- at a place the bytes of a sign -/
structure Stp (l : List UInt8) (p r k : Nat) : Prop where
  run : ∃ t, l.drop p = t ++ l.drop (p + k) ∧ t.length = k ∧ ((∃ c, t = [c] ∧ c.toNat = r ∧ r < 128) ∨ (128 ≤ r ∧ ∀ c ∈ t, 128 ≤ c.toNat))
  pos : 1 ≤ k
  le : p + k ≤ l.length
  big : r ≤ 1114111
theorem drop_at {l : List UInt8} {p : Nat} (h : p < l.length) : l.drop p = l.getD p 0 :: l.drop (p + 1) := by
  rw [List.drop_eq_getElem_cons h]; simp [List.getD, h]
theorem take_run {l t r : List UInt8} {p : Nat} (hp : p ≤ l.length) (h : l.drop p = t ++ r) : l.take (p + t.length) = l.take p ++ t := by
  rw [List.take_add, h]; simp
theorem stp_of (l : List UInt8) (p : Nat) (h : p < l.length) : Stp l p (Utf8.decode ⟨l.toArray⟩ p).1 (Utf8.decode ⟨l.toArray⟩ p).2 := by
  rw [Lib.decode_N]
  show Stp l p (Lib.decodeN (l.length - p) (l.getD p 0).toNat (l.getD (p + 1) 0).toNat (l.getD (p + 2) 0).toNat (l.getD (p + 3) 0).toNat).1 (Lib.decodeN (l.length - p) (l.getD p 0).toNat (l.getD (p + 1) 0).toNat (l.getD (p + 2) 0).toNat (l.getD (p + 3) 0).toNat).2
  have d0 := drop_at h
  have x0 := (l.getD p 0).toNat_lt
  have x1 := (l.getD (p + 1) 0).toNat_lt
  have x2 := (l.getD (p + 2) 0).toNat_lt
  have x3 := (l.getD (p + 3) 0).toNat_lt
  have one : ∀ r : Nat, 128 ≤ r → r ≤ 1114111 → 128 ≤ (l.getD p 0).toNat → Stp l p r 1 := fun r h1 h2 h3 =>
    ⟨⟨[l.getD p 0], d0, rfl, Or.inr ⟨h1, fun c hc => by simp only [List.mem_singleton] at hc; subst hc; exact h3⟩⟩, Nat.le_refl _, by omega, h2⟩
  unfold Lib.decodeN
  split
  · exact ⟨⟨[l.getD p 0], d0, rfl, Or.inl ⟨_, rfl, rfl, by assumption⟩⟩, Nat.le_refl _, by simp only; omega, by simp only; omega⟩
  rename_i hh
  split
  · rename_i q
    split
    · have d1 := drop_at (show p + 1 < l.length by omega)
      refine ⟨⟨[l.getD p 0, l.getD (p + 1) 0], by rw [d0, d1]; rfl, rfl, Or.inr ⟨by simp only; omega, fun c hc => ?_⟩⟩, by simp only; omega, by simp only; omega, by simp only; omega⟩
      simp only [List.mem_cons, List.not_mem_nil, or_false] at hc
      rcases hc with rfl | rfl <;> omega
    · exact one _ (by omega) (by omega) (by omega)
  split
  · rename_i q
    split
    · have d1 := drop_at (show p + 1 < l.length by omega)
      have d2 := drop_at (show p + 1 + 1 < l.length by omega)
      refine ⟨⟨[l.getD p 0, l.getD (p + 1) 0, l.getD (p + 2) 0], by rw [d0, d1, d2]; rfl, rfl, Or.inr ⟨by simp only; omega, fun c hc => ?_⟩⟩, by simp only; omega, by simp only; omega, by simp only; omega⟩
      simp only [List.mem_cons, List.not_mem_nil, or_false] at hc
      rcases hc with rfl | rfl | rfl <;> omega
    · exact one _ (by omega) (by omega) (by omega)
  split
  · rename_i q
    split
    · have d1 := drop_at (show p + 1 < l.length by omega)
      have d2 := drop_at (show p + 1 + 1 < l.length by omega)
      have d3 := drop_at (show p + 1 + 1 + 1 < l.length by omega)
      refine ⟨⟨[l.getD p 0, l.getD (p + 1) 0, l.getD (p + 2) 0, l.getD (p + 3) 0], by rw [d0, d1, d2, d3]; rfl, rfl, Or.inr ⟨by simp only; omega, fun c hc => ?_⟩⟩, by simp only; omega, by simp only; omega, by simp only; omega⟩
      simp only [List.mem_cons, List.not_mem_nil, or_false] at hc
      rcases hc with rfl | rfl | rfl | rfl <;> omega
    · exact one _ (by omega) (by omega) (by omega)
  · exact one _ (by omega) (by omega) (by omega)
theorem u8n {c : UInt8} {n : Nat} (hn : n < 256) : c.toNat = n ↔ c = UInt8.ofNat n := by
  constructor
  · intro h; apply UInt8.toNat_inj.1; rw [h]; simp; omega
  · intro h; rw [h]; simp; omega
/-- a byte, where it is one of the first 128; else none of them -/
theorem Stp.cases {l : List UInt8} {p r k : Nat} (h : Stp l p r k) :
    (∃ c : UInt8, c.toNat = r ∧ r < 128 ∧ k = 1 ∧ l.drop p = c :: l.drop (p + 1) ∧ l.take (p + 1) = l.take p ++ [c])
    ∨ (128 ≤ r ∧ ∃ t, l.drop p = t ++ l.drop (p + k) ∧ l.take (p + k) = l.take p ++ t ∧ t.length = k ∧ ∀ c ∈ t, 128 ≤ c.toNat) := by
  obtain ⟨t, h1, h2, h3⟩ := h.run
  have hp : p ≤ l.length := by have := h.le; omega
  have h4 := take_run hp h1
  rw [h2] at h4
  rcases h3 with ⟨c, rfl, hc, hr⟩ | ⟨hr, ht⟩
  · obtain rfl : k = 1 := by rw [← h2]; rfl
    exact Or.inl ⟨c, hc, hr, rfl, h1, h4⟩
  · exact Or.inr ⟨hr, t, h1, h4, h2, ht⟩
/-! an entity's body -/
def bo (l : List UInt8) : Option (List UInt8) := bdF 11 [] l
theorem bdF_pass : ∀ (t : List UInt8) (n : Nat) (acc r : List UInt8), (∀ c ∈ t, c ≠ 38 ∧ c ≠ 59) → bdF n acc (t ++ r) = bdF (n - t.length) (acc ++ t) r
  | [], n, acc, r, _ => by simp
  | c :: t, 0, acc, r, _ => by simp [bdF]
  | c :: t, n + 1, acc, r, h => by
    obtain ⟨h1, h2⟩ := h c (by simp)
    rw [List.cons_append, bdF, if_neg h1, if_neg h2, bdF_pass t n _ r (fun x hx => h x (List.mem_cons_of_mem _ hx))]
    simp
/-- what is read of a body -/
def BoI (l : List UInt8) (p : Nat) : Prop := p ≤ l.length ∧ bo l = bdF (11 - p) (l.take p) (l.drop p)
theorem BoI.start (l : List UInt8) : BoI l 0 := ⟨Nat.zero_le _, rfl⟩
theorem BoI.over {l : List UInt8} {p : Nat} (h : BoI l p) (hp : 10 < p) : bo l = none := by
  rw [h.2, show 11 - p = 0 by omega]; rfl
theorem BoI.done {l : List UInt8} {p : Nat} (h : BoI l p) (hp : ¬ p < l.length) : bo l = none := by
  rw [h.2, List.drop_eq_nil_of_le (by omega)]; cases 11 - p <;> rfl
theorem BoI.amp {l : List UInt8} {p r k : Nat} (h : BoI l p) (s : Stp l p r k) (hr : r = 38) : bo l = none := by
  rcases s.cases with ⟨c, h1, h2, h3, h4, _⟩ | ⟨h1, _⟩
  · obtain rfl : c = 38 := (u8n (n := 38) (by decide)).1 (h1.trans hr)
    rw [h.2, h4]; cases 11 - p with
    | zero => rfl
    | succ n => rw [bdF, if_pos rfl]
  · omega
theorem BoI.semi {l : List UInt8} {p r k : Nat} (h : BoI l p) (s : Stp l p r k) (hp : p ≤ 10) (hr : r = 59) : bo l = if p = 0 then none else some (l.take p) := by
  rcases s.cases with ⟨c, h1, h2, h3, h4, _⟩ | ⟨h1, _⟩
  · obtain rfl : c = 59 := (u8n (n := 59) (by decide)).1 (h1.trans hr)
    rw [h.2, h4, show 11 - p = 10 - p + 1 by omega, bdF, if_neg (by decide), if_pos rfl]
    have hl := h.1
    by_cases q : p = 0
    · subst q; rfl
    · rw [if_neg q, if_neg (fun e => q (by have := congrArg List.length e; rw [List.length_take] at this; simp only [List.length_nil] at this; have := s.pos; have := s.le; omega))]
  · omega
theorem BoI.next {l : List UInt8} {p r k : Nat} (h : BoI l p) (s : Stp l p r k) (h1 : r ≠ 38) (h2 : r ≠ 59) : BoI l (p + k) := by
  have key : ∀ t : List UInt8, l.drop p = t ++ l.drop (p + k) → l.take (p + k) = l.take p ++ t → t.length = k → (∀ c ∈ t, c ≠ 38 ∧ c ≠ 59) → BoI l (p + k) := fun t e1 e2 e3 e4 =>
    ⟨s.le, by rw [h.2, e1, bdF_pass t _ _ _ e4, e2, e3, Nat.sub_sub]⟩
  rcases s.cases with ⟨c, q1, q2, rfl, q4, q5⟩ | ⟨_, t, q1, q2, q3, q4⟩
  · refine key [c] q4 q5 rfl (fun x hx => ?_)
    simp only [List.mem_singleton] at hx
    subst hx
    exact ⟨fun e => h1 (by rw [← q1, e]; rfl), fun e => h2 (by rw [← q1, e]; rfl)⟩
  · refine key t q1 q2 q3 (fun x hx => ?_)
    have := q4 x hx
    exact ⟨fun e => by rw [e] at this; exact absurd this (by decide), fun e => by rw [e] at this; exact absurd this (by decide)⟩
theorem bo_len {l b : List UInt8} (h : bo l = some b) : b.length ≤ 10 ∧ b ≠ [] := by
  have key : ∀ (n : Nat) (acc r b : List UInt8), bdF n acc r = some b → b.length ≤ acc.length + (n - 1) ∧ b ≠ [] := by
    intro n
    induction n with
    | zero => intro acc r b h; cases h
    | succ n ih =>
      intro acc r b h
      cases r with
      | nil => cases h
      | cons c r =>
        rw [bdF] at h
        by_cases q1 : c = 38
        · rw [if_pos q1] at h; cases h
        rw [if_neg q1] at h
        by_cases q2 : c = 59
        · rw [if_pos q2] at h
          by_cases q3 : acc = []
          · rw [if_pos q3] at h; cases h
          · rw [if_neg q3] at h; cases h; exact ⟨by omega, q3⟩
        · rw [if_neg q2] at h
          have := ih _ _ _ h
          cases n with
          | zero => cases h
          | succ n => simp at this ⊢; exact ⟨by omega, this.2⟩
  have := key _ _ _ _ h
  simpa using this
theorem bdF_shape : ∀ (n : Nat) (acc r b : List UInt8), bdF n acc r = some b → ∃ d r', r = d ++ 59 :: r' ∧ b = acc ++ d
  | 0, _, _, _, h => by cases h
  | n + 1, _, [], _, h => by cases h
  | n + 1, acc, c :: r, b, h => by
    rw [bdF] at h
    by_cases q1 : c = 38
    · rw [if_pos q1] at h; cases h
    rw [if_neg q1] at h
    by_cases q2 : c = 59
    · rw [if_pos q2] at h
      by_cases q3 : acc = []
      · rw [if_pos q3] at h; cases h
      · rw [if_neg q3] at h; cases h; exact ⟨[], r, by rw [q2]; rfl, by simp⟩
    · rw [if_neg q2] at h
      obtain ⟨d, r', e1, e2⟩ := bdF_shape n _ r b h
      exact ⟨c :: d, r', by rw [e1]; rfl, by rw [e2]; simp⟩
theorem dg_lt {c : UInt8} {base : Int} (h : dg c < base) (hb : base ≤ 16) : c.toNat < 128 ∧ c ≠ 38 := by
  unfold dg at h
  have a : c = 38 → c.toNat = 38 := fun e => by rw [e]; rfl
  split at h
  · exact ⟨by omega, fun e => by have := a e; omega⟩
  · split at h
    · exact ⟨by omega, fun e => by have := a e; omega⟩
    · split at h
      · exact ⟨by omega, fun e => by have := a e; omega⟩
      · omega
theorem numF_plain {base : Int} (hb : base ≤ 16) : ∀ (d : List UInt8) (acc n : Int), numF base acc d = some n → ∀ c ∈ d, c.toNat < 128 ∧ c ≠ 38
  | [], _, _, _, _, hc => by cases hc
  | a :: d, acc, n, h, c, hc => by
    rw [numF] at h
    by_cases q : dg a < base
    · rw [if_pos q] at h
      rcases List.mem_cons.1 hc with rfl | hc
      · exact dg_lt q hb
      · exact numF_plain hb d _ n h c hc
    · rw [if_neg q] at h; cases h
theorem num_plain {base : Int} (hb : base ≤ 16) {d : List UInt8} {n : Int} (h : num base d = some n) : ∀ c ∈ d, c.toNat < 128 ∧ c ≠ 38 := by
  unfold num at h
  by_cases q : d = []
  · rw [if_pos q] at h; cases h
  · rw [if_neg q] at h; exact numF_plain hb d _ n h
/-- a body that has a sign is of the first 128 signs, and has no ampersand -/
theorem sg_plain {b x : List UInt8} (h : sg b = some x) : ∀ c ∈ b, c.toNat < 128 ∧ c ≠ 38 := by
  unfold sg at h
  by_cases e1 : b = [97, 109, 112]
  · rw [e1]; decide
  rw [if_neg e1] at h
  by_cases e2 : b = [108, 116]
  · rw [e2]; decide
  rw [if_neg e2] at h
  by_cases e3 : b = [103, 116]
  · rw [e3]; decide
  rw [if_neg e3] at h
  by_cases e4 : b = [113, 117, 111, 116]
  · rw [e4]; decide
  rw [if_neg e4] at h
  by_cases e5 : b = [97, 112, 111, 115]
  · rw [e5]; decide
  rw [if_neg e5] at h
  split at h
  · rename_i r
    cases hn : num 16 r with
    | none => rw [hn] at h; cases h
    | some m =>
      have := num_plain (by omega) hn
      intro c hc
      rcases List.mem_cons.1 hc with rfl | hc
      · decide
      rcases List.mem_cons.1 hc with rfl | hc
      · decide
      · exact this c hc
  · rename_i r _
    cases hn : num 10 r with
    | none => rw [hn] at h; cases h
    | some m =>
      have := num_plain (by omega) hn
      intro c hc
      rcases List.mem_cons.1 hc with rfl | hc
      · decide
      · exact this c hc
  · cases h
/-! a text decoded: what is written, up to where, and whether all was fine -/
structure GoI (l acc : List UInt8) (W p : Nat) (al : Bool) : Prop where
  wl : W ≤ l.length
  pl : p ≤ l.length
  short : acc.length ≤ W
  st : (W ≤ p ∧ gone l = (acc ++ (l.take p).drop W ++ (gone (l.drop p)).1, al && (gone (l.drop p)).2))
    ∨ (p < W ∧ (∃ t, l.drop p = t ++ l.drop W ∧ t.length = W - p ∧ ∀ c ∈ t, c.toNat < 128 ∧ c ≠ 38) ∧ gone l = (acc ++ (gone (l.drop W)).1, al && (gone (l.drop W)).2))
theorem GoI.start (l : List UInt8) : GoI l [] 0 0 true := ⟨Nat.zero_le _, Nat.zero_le _, Nat.le_refl _, Or.inl ⟨Nat.le_refl _, by simp⟩⟩
theorem GoI.done {l acc : List UInt8} {W p : Nat} {al : Bool} (h : GoI l acc W p al) (hp : ¬ p < l.length) : gone l = (acc ++ l.drop W, al) := by
  have h1 := h.pl
  have h2 := h.wl
  rcases h.st with ⟨h3, h4⟩ | ⟨h3, _⟩
  · rw [h4, List.drop_eq_nil_of_le (show l.length ≤ p by omega), List.take_of_length_le (show l.length ≤ p by omega), gone_nil]; simp
  · omega
/-- a sign that is no ampersand -/
theorem GoI.next {l acc : List UInt8} {W p r k : Nat} {al : Bool} (h : GoI l acc W p al) (s : Stp l p r k) (hr : r ≠ 38) : GoI l acc W (p + k) al := by
  refine ⟨h.wl, s.le, h.short, ?_⟩
  rcases h.st with ⟨h3, h4⟩ | ⟨h3, ⟨t, h4, h5, h6⟩, h7⟩
  · have key : ∀ t : List UInt8, l.drop p = t ++ l.drop (p + k) → l.take (p + k) = l.take p ++ t → (∀ c ∈ t, c ≠ 38) → gone l = (acc ++ (l.take (p + k)).drop W ++ (gone (l.drop (p + k))).1, al && (gone (l.drop (p + k))).2) := fun t e1 e2 e3 => by
      have g : gone t = (t, true) := gone_plain (fun hm => e3 _ hm rfl)
      have hp := h.pl
      rw [h4, e1, gone_app _ (by rw [g]), g, e2, List.drop_append_of_le_length (by rw [List.length_take]; omega)]
      simp
    left
    refine ⟨by omega, ?_⟩
    rcases s.cases with ⟨c, q1, q2, rfl, q4, q5⟩ | ⟨_, t, q1, q2, q3, q4⟩
    · refine key [c] q4 q5 (fun x hx => ?_)
      simp only [List.mem_singleton] at hx
      subst hx
      exact fun e => hr (by rw [← q1, e]; rfl)
    · refine key t q1 q2 (fun x hx => ?_)
      have := q4 x hx
      exact fun e => by rw [e] at this; exact absurd this (by decide)
  · have hW := h.wl
    cases t with
    | nil => simp at h5; omega
    | cons c t =>
      have hk : k = 1 ∧ l.drop (p + 1) = t ++ l.drop W := by
        rcases s.cases with ⟨c', q1, q2, q3, q4, q5⟩ | ⟨_, t', q1, q2, q3, q4⟩
        · rw [q4] at h4
          simp only [List.cons_append, List.cons.injEq] at h4
          exact ⟨q3, h4.2⟩
        · have hk := s.pos
          cases t' with
          | nil => simp at q3; omega
          | cons c' t' =>
            rw [q1] at h4
            simp only [List.cons_append, List.cons.injEq] at h4
            have a := q4 c' (by simp)
            have b := (h6 c (by simp)).1
            rw [h4.1] at a; omega
      obtain ⟨rfl, hd⟩ := hk
      simp only [List.length_cons] at h5
      by_cases q : p + 1 = W
      · left
        subst q
        exact ⟨Nat.le_refl _, by rw [h7]; simp⟩
      · exact Or.inr ⟨by omega, ⟨t, hd, by omega, fun x hx => h6 x (List.mem_cons_of_mem _ hx)⟩, h7⟩
/-- at an ampersand nothing is ahead -/
theorem GoI.amp {l acc : List UInt8} {W p r k : Nat} {al : Bool} (h : GoI l acc W p al) (s : Stp l p r k) (hr : r = 38) : k = 1 ∧ W ≤ p ∧ l.drop p = 38 :: l.drop (p + 1) ∧ l.take (p + 1) = l.take p ++ [38] ∧ p + 1 ≤ l.length := by
  have hle := s.le
  rcases s.cases with ⟨c, q1, q2, rfl, q4, q5⟩ | ⟨h1, _⟩
  · obtain rfl : c = 38 := (u8n (n := 38) (by decide)).1 (q1.trans hr)
    refine ⟨rfl, ?_, q4, q5, hle⟩
    rcases h.st with ⟨h3, _⟩ | ⟨h3, ⟨t, h4, h5, h6⟩, _⟩
    · exact h3
    · cases t with
      | nil => simp at h5; omega
      | cons c t =>
        rw [q4] at h4
        simp only [List.cons_append, List.cons.injEq] at h4
        exact absurd h4.1.symm (h6 c (by simp)).2
  · omega
theorem GoI.stay {l acc : List UInt8} {W p r k : Nat} {al : Bool} (h : GoI l acc W p al) (s : Stp l p r k) (hr : r = 38) (he : en (l.drop (p + 1)) = none) : GoI l acc W (p + k) false := by
  obtain ⟨rfl, h1, h2, h3, h5⟩ := h.amp s hr
  refine ⟨h.wl, h5, h.short, Or.inl ⟨by omega, ?_⟩⟩
  have hp := h.pl
  rcases h.st with ⟨_, h4⟩ | ⟨h4, _⟩
  · rw [h4, h2, gone_cons, if_pos rfl, he, h3, List.drop_append_of_le_length (by rw [List.length_take]; omega)]
    simp
  · omega
theorem GoI.put {l acc b x : List UInt8} {W p r k : Nat} {al : Bool} (h : GoI l acc W p al) (s : Stp l p r k) (hr : r = 38) (hb : bo (l.drop (p + 1)) = some b) (hx : sg b = some x) :
    GoI l (acc ++ (l.take p).drop W ++ x) (p + 1 + b.length + 1) (p + k) al := by
  obtain ⟨rfl, h1, h2, h3, h5⟩ := h.amp s hr
  have hp := h.pl
  obtain ⟨d, r', e1, e2⟩ := bdF_shape _ _ _ _ hb
  rw [List.nil_append] at e2
  subst e2
  have hlen : p + 1 + b.length + 1 ≤ l.length := by
    have := congrArg List.length e1
    simp at this; omega
  have hd : l.drop (p + 1 + b.length + 1) = r' := by
    rw [Nat.add_assoc (p + 1), ← List.drop_drop, e1]; simp
  have hxl := sg_len hx
  have hpl := sg_plain hx
  refine ⟨hlen, h5, ?_, Or.inr ⟨by omega, ⟨b ++ [59], by rw [e1, hd]; simp, by simp; omega, fun c hc => ?_⟩, ?_⟩⟩
  · have := h.short
    simp; omega
  · rcases List.mem_append.1 hc with hc | hc
    · exact hpl c hc
    · simp only [List.mem_singleton] at hc
      subst hc; decide
  · have he : en (l.drop (p + 1)) = some (x, b.length + 1) := by
      unfold en
      rw [show bdF 11 [] (l.drop (p + 1)) = some b from hb]
      simp [hx]
    rcases h.st with ⟨_, h4⟩ | ⟨h4, _⟩
    · rw [h4, h2, gone_cons, if_pos rfl, he, hd]
      have : (l.drop (p + 1)).drop (b.length + 1) = r' := by rw [e1]; simp
      simp only [this]
      simp
    · omega
/-! a text encoded -/
def entR (r : Nat) : List UInt8 := if r = 38 then [38, 97, 109, 112, 59] else if r = 60 then [38, 108, 116, 59] else if r = 62 then [38, 103, 116, 59] else if r = 34 then [38, 113, 117, 111, 116, 59] else []
theorem encC_of {c : UInt8} : encC c = if entR c.toNat = [] then [c] else entR c.toNat := by
  have key : ∀ n : Fin 256, encC (UInt8.ofNat n) = if entR (UInt8.ofNat n).toNat = [] then [UInt8.ofNat n] else entR (UInt8.ofNat n).toNat := by decide +kernel
  have := key ⟨c.toNat, c.toNat_lt⟩
  simpa using this
theorem entR_high {r : Nat} (h : 128 ≤ r) : entR r = [] := by unfold entR; rw [if_neg (by omega), if_neg (by omega), if_neg (by omega), if_neg (by omega)]
theorem enc_run : ∀ (t : List UInt8), (∀ c ∈ t, entR c.toNat = []) → enc t = t
  | [], _ => rfl
  | c :: t, h => by
    have e : enc (c :: t) = encC c ++ enc t := rfl
    rw [e, encC_of, if_pos (h c (by simp)), enc_run t (fun x hx => h x (List.mem_cons_of_mem _ hx))]; rfl
theorem enc_app (a b : List UInt8) : enc (a ++ b) = enc a ++ enc b := by unfold enc; rw [List.flatMap_append]
structure EnI (l acc : List UInt8) (W p : Nat) : Prop where
  wp : W ≤ p
  pl : p ≤ l.length
  short : acc.length ≤ 6 * W
  st : enc l = acc ++ (l.take p).drop W ++ enc (l.drop p)
theorem EnI.start (l : List UInt8) : EnI l [] 0 0 := ⟨Nat.le_refl _, Nat.zero_le _, Nat.le_refl _, by simp⟩
theorem EnI.done {l acc : List UInt8} {W p : Nat} (h : EnI l acc W p) (hp : ¬ p < l.length) : enc l = acc ++ l.drop W := by
  have h1 := h.pl
  rw [h.st, List.drop_eq_nil_of_le (show l.length ≤ p by omega), List.take_of_length_le (show l.length ≤ p by omega)]; simp [enc]
theorem EnI.next {l acc : List UInt8} {W p r k : Nat} (h : EnI l acc W p) (s : Stp l p r k) (hr : entR r = []) : EnI l acc W (p + k) := by
  have hp := h.pl
  have hw := h.wp
  have key : ∀ t : List UInt8, l.drop p = t ++ l.drop (p + k) → l.take (p + k) = l.take p ++ t → (∀ c ∈ t, entR c.toNat = []) → EnI l acc W (p + k) := fun t e1 e2 e3 =>
    ⟨by omega, s.le, h.short, by rw [h.st, e1, enc_app, enc_run t e3, e2, List.drop_append_of_le_length (by rw [List.length_take]; omega)]; simp⟩
  rcases s.cases with ⟨c, q1, q2, rfl, q4, q5⟩ | ⟨_, t, q1, q2, q3, q4⟩
  · refine key [c] q4 q5 (fun x hx => ?_)
    simp only [List.mem_singleton] at hx
    subst hx
    rw [q1]; exact hr
  · exact key t q1 q2 (fun x hx => entR_high (q4 x hx))
theorem entR_low {r : Nat} (h : entR r ≠ []) : r < 128 := by
  unfold entR at h
  by_cases q : r < 128
  · exact q
  · rw [if_neg (by omega), if_neg (by omega), if_neg (by omega), if_neg (by omega)] at h; exact absurd rfl h
theorem entR_len (r : Nat) : (entR r).length ≤ 6 := by unfold entR; split <;> (try split) <;> (try split) <;> (try split) <;> simp
theorem EnI.put {l acc : List UInt8} {W p r k : Nat} (h : EnI l acc W p) (s : Stp l p r k) (hr : entR r ≠ []) : k = 1 ∧ EnI l (acc ++ (l.take p).drop W ++ entR r) (p + 1) (p + 1) := by
  have hp := h.pl
  have hw := h.wp
  have hlow := entR_low hr
  have hle := s.le
  rcases s.cases with ⟨c, q1, q2, rfl, q4, q5⟩ | ⟨q, _⟩
  · refine ⟨rfl, Nat.le_refl _, hle, ?_, ?_⟩
    · have := h.short
      have := entR_len r
      simp; omega
    · have e : enc (c :: l.drop (p + 1)) = encC c ++ enc (l.drop (p + 1)) := rfl
      rw [h.st, q4, e, encC_of, q1, if_neg hr]
      simp
  · omega
/-! words -/
def addW (acc w : List UInt8) : List UInt8 := if acc = [] then w else acc ++ 32 :: w
def wordsF : List UInt8 → List UInt8 → List (List UInt8)
  | cur, [] => if cur = [] then [] else [cur]
  | cur, c :: r => if spB c = true then (if cur = [] then wordsF [] r else cur :: wordsF [] r) else wordsF (cur ++ [c]) r
theorem addW_ne {acc w : List UInt8} (h : w ≠ []) : addW acc w ≠ [] := by unfold addW; split <;> simp_all
theorem addW_app (acc w x : List UInt8) (h : w ≠ []) : addW acc (w ++ x) = addW acc w ++ x := by unfold addW; split <;> simp
def some? (acc : List UInt8) : Bool := !acc.isEmpty
theorem words_tr : ∀ (l acc : List UInt8), (wordsF [] l).foldl addW acc = acc ++ trF (some? acc) (some? acc) l ∧ ∀ cur, cur ≠ [] → (wordsF cur l).foldl addW acc = addW acc cur ++ trF true false l
  | [], acc => ⟨by simp [wordsF, trF], fun cur h => by simp [wordsF, trF, h]⟩
  | c :: r, acc => by
    cases hc : spB c with
    | true =>
      refine ⟨?_, fun cur h => ?_⟩
      · rw [wordsF, if_pos hc, if_pos rfl, trF_sp hc]; exact (words_tr r acc).1
      · rw [wordsF, if_pos hc, if_neg h, trF_sp hc, List.foldl_cons, (words_tr r _).1]
        have : some? (addW acc cur) = true := by simp [some?, addW_ne h]
        rw [this]
    | false =>
      refine ⟨?_, fun cur h => ?_⟩
      · rw [wordsF, if_neg (by rw [hc]; decide), trF_no hc, List.nil_append, (words_tr r acc).2 [c] (by simp)]
        cases acc with
        | nil => simp [addW, some?]
        | cons a acc => simp [addW, some?]
      · rw [wordsF, if_neg (by rw [hc]; decide), trF_no hc, (words_tr r acc).2 (cur ++ [c]) (by simp), addW_app _ _ _ h]
        simp
def words (l : List UInt8) : List (List UInt8) := wordsF [] l
def jn (ws : List (List UInt8)) : List UInt8 := ws.foldl addW []
theorem tr_words (l : List UInt8) : tr l = jn (words l) := by
  have := (words_tr l []).1
  unfold jn words tr
  rw [this]; simp [some?]
theorem jn_snoc (ws : List (List UInt8)) (w : List UInt8) : jn (ws ++ [w]) = addW (jn ws) w := by unfold jn; rw [List.foldl_append]; rfl
/-- what is told of the words, and where the next one began -/
structure WoI (l : List UInt8) (ws : List (List UInt8)) (p : Nat) (st : Int) : Prop where
  pl : p ≤ l.length
  few : ws.length ≤ p
  lo : -1 ≤ st
  cur : (st = -1 ∧ words l = ws ++ wordsF [] (l.drop p)) ∨ (0 ≤ st ∧ st.toNat < p ∧ words l = ws ++ wordsF ((l.take p).drop st.toNat) (l.drop p))
theorem WoI.start (l : List UInt8) : WoI l [] 0 (-1) := ⟨Nat.zero_le _, Nat.zero_le _, Int.le_refl _, Or.inl ⟨rfl, by simp [words]⟩⟩
def blankR (r : Nat) : Bool := r == 9 || r == 10 || r == 13 || r == 32
theorem blank_of (c : UInt8) : blankR c.toNat = spB c := rfl
theorem blank_high {r : Nat} (h : 128 ≤ r) : blankR r = false := by
  unfold blankR
  simp only [Bool.or_eq_false_iff, beq_eq_false_iff_ne]
  omega
theorem blank_low {r : Nat} (h : blankR r = true) : r < 128 := by
  by_cases q : r < 128
  · exact q
  · rw [blank_high (by omega)] at h; cases h
theorem wordsF_run : ∀ (t cur r : List UInt8), (∀ c ∈ t, spB c = false) → wordsF cur (t ++ r) = wordsF (cur ++ t) r
  | [], cur, r, _ => by simp
  | c :: t, cur, r, h => by
    rw [List.cons_append, wordsF, if_neg (by rw [h c (by simp)]; decide), wordsF_run t _ r (fun x hx => h x (List.mem_cons_of_mem _ hx))]
    simp
/-- a sign that is no blank -/
theorem WoI.on {l : List UInt8} {ws : List (List UInt8)} {p r k : Nat} {st : Int} (h : WoI l ws p st) (s : Stp l p r k) (hr : blankR r = false) : WoI l ws (p + k) (if st < 0 then p else st) := by
  have hp := h.pl
  have hk := s.pos
  have hf := h.few
  have key : ∀ t : List UInt8, l.drop p = t ++ l.drop (p + k) → l.take (p + k) = l.take p ++ t → (∀ c ∈ t, spB c = false) → WoI l ws (p + k) (if st < 0 then p else st) := fun t e1 e2 e3 => by
    rcases h.cur with ⟨h1, h2⟩ | ⟨h0, h1, h2⟩
    · rw [if_pos (by omega)]
      refine ⟨s.le, by omega, by omega, Or.inr ⟨by omega, by simp; omega, ?_⟩⟩
      rw [h2, e1, wordsF_run t _ _ e3, e2]
      have : (l.take p ++ t).drop (p : Int).toNat = t := by
        rw [List.drop_append]; simp [Nat.min_eq_left hp]
      rw [this]; rfl
    · rw [if_neg (by omega)]
      refine ⟨s.le, by omega, by omega, Or.inr ⟨h0, by omega, ?_⟩⟩
      rw [h2, e1, wordsF_run t _ _ e3, e2, List.drop_append_of_le_length (by rw [List.length_take]; omega)]
  rcases s.cases with ⟨c, q1, q2, rfl, q4, q5⟩ | ⟨_, t, q1, q2, q3, q4⟩
  · refine key [c] q4 q5 (fun x hx => ?_)
    simp only [List.mem_singleton] at hx
    subst hx
    rw [← blank_of, q1]; exact hr
  · exact key t q1 q2 (fun x hx => by rw [← blank_of]; exact blank_high (q4 x hx))
/-- a blank where no word is open, or where one ends -/
theorem WoI.gap {l : List UInt8} {ws : List (List UInt8)} {p r k : Nat} {st : Int} (h : WoI l ws p st) (s : Stp l p r k) (hr : blankR r = true) (hs : st < 0) : WoI l ws (p + k) st := by
  have hlow := blank_low hr
  have hf := h.few
  rcases s.cases with ⟨c, q1, q2, rfl, q4, q5⟩ | ⟨q, _⟩
  · refine ⟨s.le, by omega, h.lo, Or.inl ?_⟩
    rcases h.cur with ⟨h1, h2⟩ | ⟨h0, _⟩
    · refine ⟨h1, ?_⟩
      rw [h2, q4, wordsF, if_pos (by rw [← blank_of, q1]; exact hr), if_pos rfl]
    · omega
  · omega
theorem WoI.end_ {l : List UInt8} {ws : List (List UInt8)} {p r k : Nat} {st : Int} (h : WoI l ws p st) (s : Stp l p r k) (hr : blankR r = true) (hs : 0 ≤ st) : WoI l (ws ++ [(l.take p).drop st.toNat]) (p + k) (-1) := by
  have hlow := blank_low hr
  have hf := h.few
  have hp := h.pl
  rcases s.cases with ⟨c, q1, q2, rfl, q4, q5⟩ | ⟨q, _⟩
  · refine ⟨s.le, by simp; omega, by omega, Or.inl ⟨rfl, ?_⟩⟩
    rcases h.cur with ⟨h1, h2⟩ | ⟨h0, h1, h2⟩
    · omega
    · rw [h2, q4, wordsF, if_pos (by rw [← blank_of, q1]; exact hr), if_neg (fun e => by have := congrArg List.length e; simp only [List.length_take, List.length_drop, List.length_nil] at this; omega)]
      simp
  · omega
theorem WoI.last {l : List UInt8} {ws : List (List UInt8)} {p : Nat} {st : Int} (h : WoI l ws p st) (hp : ¬ p < l.length) (hs : 0 ≤ st) : words l = ws ++ [l.drop st.toNat] := by
  have h1 := h.pl
  rcases h.cur with ⟨_, h2⟩ | ⟨_, h3, h2⟩
  · omega
  · rw [h2, List.drop_eq_nil_of_le (show l.length ≤ p by omega), List.take_of_length_le (show l.length ≤ p by omega), wordsF, if_neg (fun e => by have := congrArg List.length e; simp only [List.length_drop, List.length_nil] at this; omega)]
theorem WoI.shut {l : List UInt8} {ws : List (List UInt8)} {p : Nat} {st : Int} (h : WoI l ws p st) (hp : ¬ p < l.length) (hs : st < 0) : words l = ws := by
  have h1 := h.pl
  rcases h.cur with ⟨_, h2⟩ | ⟨q, _⟩
  · rw [h2, List.drop_eq_nil_of_le (show l.length ≤ p by omega), wordsF, if_pos rfl, List.append_nil]
  · omega
theorem wordsF_all : ∀ (l cur : List UInt8), ∀ w ∈ wordsF cur l, w ≠ [] ∧ w.length ≤ cur.length + l.length
  | [], cur, w, hw => by
    rw [wordsF] at hw
    by_cases q : cur = []
    · rw [if_pos q] at hw; cases hw
    · rw [if_neg q] at hw
      simp only [List.mem_singleton] at hw
      subst hw; exact ⟨q, by simp⟩
  | c :: r, cur, w, hw => by
    rw [wordsF] at hw
    split at hw
    · split at hw
      · have := wordsF_all r [] w hw
        exact ⟨this.1, by have := this.2; simp only [List.length_nil, List.length_cons] at this ⊢; omega⟩
      · rename_i q
        rcases List.mem_cons.1 hw with rfl | hw
        · exact ⟨q, Nat.le_add_right _ _⟩
        · have := wordsF_all r [] w hw
          exact ⟨this.1, by have := this.2; simp only [List.length_nil, List.length_cons] at this ⊢; omega⟩
    · have := wordsF_all r _ w hw
      exact ⟨this.1, by have := this.2; simp only [List.length_nil, List.length_cons, List.length_append] at this ⊢; omega⟩
end Go.Proofs.YtdfmnjoklehifaaDoor.En
