/- Plain mathematics of addresses and entries: the usual form, keys, which are fresh. -/
import Derived.Test.YtpkkpjonlogliaaDoorEnPure
import Derived.Lib.Case
set_option linter.unusedSimpArgs false
set_option linter.unusedVariables false
namespace Go.Proofs.YtpkkpjonlogliaaDoor.Idn
open En
abbrev T := List UInt8
def lo (l : T) : T := l.map Lib.lowerB
/-- does a host end here -/
def isEnd (c : UInt8) : Bool := c == 47 || c == 63 || c == 35
def hostOf (a : T) : T := a.takeWhile fun c => !isEnd c
def restOf (a : T) : T := a.dropWhile fun c => !isEnd c
def stripF : Nat → T → T → T
  | 0, _, h => h
  | n + 1, p, h => if p.isSuffixOf h = true then stripF n p (h.take (h.length - p.length)) else h
/-- without a port that goes without saying, as often as it stands there -/
def strip (p h : T) : T := stripF h.length p h
def toHash (r : T) : T := r.takeWhile fun c => c != 35
def slashed (x : T) : T := if x.head? = some 47 then x else 47 :: x
def hostS (p a : T) : T := strip p (lo (hostOf a))
def restS (a : T) : T := slashed (tr (toHash (restOf a)))
def sch1 : T := [104, 116, 116, 112, 58, 47, 47]
def sch2 : T := [104, 116, 116, 112, 115, 58, 47, 47]
def port1 : T := [58, 56, 48]
def port2 : T := [58, 52, 52, 51]
def begins (t s : T) : Bool := decide (s.length ≤ t.length) && (lo (t.take s.length) == s)
def web (s p a : T) : T := s ++ hostS p a ++ restS a
def normT (t : T) : T := if begins t sch1 = true then web sch1 port1 (t.drop 7) else if begins t sch2 = true then web sch2 port2 (t.drop 8) else t
def norm (s : T) : T := normT (tr s)
/-! lengths -/
theorem trF_len1 : ∀ (l : T) (s g : Bool), (trF s g l).length ≤ l.length + (if g = true then 1 else 0)
  | [], _, _ => by simp [trF]
  | c :: r, s, g => by
    cases hc : spB c with
    | true => rw [trF_sp hc]; have := trF_len1 r s s; cases s <;> simp at this ⊢ <;> omega
    | false => rw [trF_no hc]; have := trF_len1 r true false; cases g <;> simp at this ⊢ <;> omega
theorem tr_len (l : T) : (tr l).length ≤ l.length := by
  have := trF_len1 l false false
  unfold tr
  simpa using this
theorem take_len (p : UInt8 → Bool) : ∀ (l : T), (l.takeWhile p).length ≤ l.length
  | [] => by simp
  | a :: r => by rw [List.takeWhile_cons]; split <;> simp [take_len p r]
theorem drop_len (p : UInt8 → Bool) : ∀ (l : T), (l.dropWhile p).length ≤ l.length
  | [] => by simp
  | a :: r => by
    rw [List.dropWhile_cons]
    have := drop_len p r
    split
    · rw [List.length_cons]; omega
    · exact Nat.le_refl _
theorem stripF_pre : ∀ (n : Nat) (p h : T), ∃ k, stripF n p h = h.take k
  | 0, p, h => ⟨h.length, by simp [stripF]⟩
  | n + 1, p, h => by
    rw [stripF]
    split
    · obtain ⟨k, hk⟩ := stripF_pre n p (h.take (h.length - p.length))
      exact ⟨min k (h.length - p.length), by rw [hk, List.take_take]⟩
    · exact ⟨h.length, by simp⟩
theorem strip_pre (p h : T) : ∃ k, strip p h = h.take k := stripF_pre _ p h
theorem strip_len (p h : T) : (strip p h).length ≤ h.length := by
  obtain ⟨k, hk⟩ := strip_pre p h
  rw [hk, List.length_take]; omega
theorem hostS_len (p a : T) : (hostS p a).length ≤ a.length := by
  unfold hostS
  have h1 := strip_len p (lo (hostOf a))
  have h2 : (lo (hostOf a)).length = (hostOf a).length := List.length_map _
  have h3 := take_len (fun c => !isEnd c) a
  unfold hostOf at h1 h2 ⊢
  omega
theorem slashed_len (x : T) : (slashed x).length ≤ x.length + 1 := by unfold slashed; split <;> simp
theorem restS_len (a : T) : (restS a).length ≤ a.length + 1 := by
  unfold restS
  have h1 := slashed_len (tr (toHash (restOf a)))
  have h2 := tr_len (toHash (restOf a))
  have h3 := take_len (fun c => c != 35) (restOf a)
  have h4 := drop_len (fun c => !isEnd c) a
  unfold toHash restOf at *
  omega
theorem web_len (s p a : T) : (web s p a).length ≤ s.length + 2 * a.length + 1 := by
  unfold web
  have h1 := hostS_len p a
  have h2 := restS_len a
  simp only [List.length_append]
  omega
theorem normT_len (t : T) : (normT t).length ≤ 2 * t.length + 9 := by
  unfold normT
  split
  · have := web_len sch1 port1 (t.drop 7)
    rw [List.length_drop] at this
    have e : sch1.length = 7 := rfl
    omega
  · split
    · have := web_len sch2 port2 (t.drop 8)
      rw [List.length_drop] at this
      have e : sch2.length = 8 := rfl
      omega
    · omega
theorem norm_len (s : T) : (norm s).length ≤ 2 * s.length + 9 := by
  have h1 := normT_len (tr s)
  have h2 := tr_len s
  unfold norm
  omega
/-! letters -/
theorem lowerB_cases (c : UInt8) : Lib.lowerB c = c ∨ (65 ≤ c.toNat ∧ c.toNat ≤ 90 ∧ (Lib.lowerB c).toNat = c.toNat + 32) := by
  unfold Lib.lowerB Lib.isUpperB
  by_cases h1 : (65 : UInt8) ≤ c
  · by_cases h2 : c ≤ (90 : UInt8)
    · right
      rw [UInt8.le_iff_toNat_le] at h1 h2
      change 65 ≤ c.toNat at h1
      change c.toNat ≤ 90 at h2
      refine ⟨h1, h2, ?_⟩
      have h1' : (65 : UInt8) ≤ c := by rw [UInt8.le_iff_toNat_le]; exact h1
      have h2' : c ≤ (90 : UInt8) := by rw [UInt8.le_iff_toNat_le]; exact h2
      simp [h1', h2', UInt8.toNat_add]; omega
    · left; simp [h2]
  · left; simp [h1]
theorem lowerB_low {c : UInt8} (h : c.toNat < 65 ∨ 90 < c.toNat) : Lib.lowerB c = c := by
  rcases lowerB_cases c with q | q
  · exact q
  · omega
theorem lowerB_idem (c : UInt8) : Lib.lowerB (Lib.lowerB c) = Lib.lowerB c := by
  rcases lowerB_cases c with q | q
  · rw [q, q]
  · exact lowerB_low (by omega)
theorem lo_lo (l : T) : lo (lo l) = lo l := by
  unfold lo
  rw [List.map_map]
  exact List.map_congr_left fun c _ => lowerB_idem c
/-- a sign below the letters is as it was -/
theorem lowerB_eq {c d : UInt8} (hd : d.toNat < 65) : Lib.lowerB c = d ↔ c = d := by
  constructor
  · intro h
    rcases lowerB_cases c with q | q
    · rw [← h, q]
    · have : (Lib.lowerB c).toNat = d.toNat := by rw [h]
      omega
  · rintro rfl; exact lowerB_low (Or.inl hd)
theorem spB_of (c : UInt8) : spB c = decide (c = 9 ∨ c = 10 ∨ c = 13 ∨ c = 32) := by
  rw [Bool.eq_iff_iff]
  unfold spB
  simp only [Bool.or_eq_true, beq_iff_eq, decide_eq_true_eq]
  have e : ∀ (d : UInt8), c.toNat = d.toNat ↔ c = d := fun d => UInt8.toNat_inj
  have e9 := e 9; have e10 := e 10; have e13 := e 13; have e32 := e 32
  change c.toNat = 9 ↔ _ at e9; change c.toNat = 10 ↔ _ at e10; change c.toNat = 13 ↔ _ at e13; change c.toNat = 32 ↔ _ at e32
  rw [e9, e10, e13, e32]
  constructor
  · rintro (((h | h) | h) | h) <;> simp [h]
  · rintro (h | h | h | h) <;> simp [h]
theorem spB_lo (c : UInt8) : spB (Lib.lowerB c) = spB c := by
  rw [spB_of, spB_of]
  congr 1
  rw [lowerB_eq (by decide), lowerB_eq (by decide), lowerB_eq (by decide), lowerB_eq (by decide)]
theorem isEnd_lo (c : UInt8) : isEnd (Lib.lowerB c) = isEnd c := by
  unfold isEnd
  have h1 : (Lib.lowerB c == 47) = (c == 47) := by rw [Bool.eq_iff_iff, beq_iff_eq, beq_iff_eq]; exact lowerB_eq (by decide)
  have h2 : (Lib.lowerB c == 63) = (c == 63) := by rw [Bool.eq_iff_iff, beq_iff_eq, beq_iff_eq]; exact lowerB_eq (by decide)
  have h3 : (Lib.lowerB c == 35) = (c == 35) := by rw [Bool.eq_iff_iff, beq_iff_eq, beq_iff_eq]; exact lowerB_eq (by decide)
  rw [h1, h2, h3]
/-! blanks -/
theorem nb_mono : ∀ {l : T} {p : Bool}, nb p l = true → nb true l = true
  | [], _, _ => rfl
  | c :: r, p, h => by
    rw [nb] at h ⊢
    split
    · rename_i hc
      rw [if_pos hc] at h
      simp only [Bool.and_eq_true] at h ⊢
      exact ⟨⟨⟨h.1.1.1, trivial⟩, h.1.2⟩, h.2⟩
    · rename_i hc
      rw [if_neg hc] at h
      exact h
theorem nb_tail {p : Bool} {c : UInt8} {r : T} (h : nb p (c :: r) = true) : nb (!spB c) r = true := by
  rw [nb] at h
  cases hc : spB c with
  | true => rw [if_pos hc] at h; simp only [Bool.and_eq_true] at h; exact h.2
  | false => rw [if_neg (by rw [hc]; decide)] at h; exact h
theorem nb_app_right : ∀ {x y : T} {p : Bool}, nb p (x ++ y) = true → nb true y = true
  | [], _, _, h => nb_mono h
  | c :: x, y, p, h => nb_app_right (x := x) (nb_tail h)
/-- the same of a beginning: its last sign may be a blank -/
def pnb : Bool → T → Bool
  | _, [] => true
  | p, c :: r => if spB c = true then c == 32 && p && (r.isEmpty || hdN r) && pnb false r else pnb true r
theorem pnb_of : ∀ {x y : T} {p : Bool}, nb p (x ++ y) = true → pnb p x = true
  | [], _, _, _ => rfl
  | c :: x, y, p, h => by
    rw [List.cons_append, nb] at h
    rw [pnb]
    cases hc : spB c with
    | true =>
      rw [if_pos hc] at h
      rw [if_pos rfl]
      simp only [Bool.and_eq_true] at h
      obtain ⟨⟨⟨h1, h2⟩, h3⟩, h4⟩ := h
      rw [h1, h2, pnb_of h4]
      cases x with
      | nil => rfl
      | cons d x => simpa [hdN] using h3
    | false =>
      rw [if_neg (by rw [hc]; decide)] at h
      rw [if_neg (by decide)]
      exact pnb_of h
theorem pnb_take : ∀ (x : T) (k : Nat) (p : Bool), pnb p x = true → pnb p (x.take k) = true
  | [], k, p, h => by simp [pnb]
  | c :: x, 0, p, h => rfl
  | c :: x, k + 1, p, h => by
    rw [pnb] at h
    rw [List.take_succ_cons, pnb]
    cases hc : spB c with
    | true =>
      rw [if_pos hc] at h
      rw [if_pos rfl]
      simp only [Bool.and_eq_true] at h
      obtain ⟨⟨⟨h1, h2⟩, h3⟩, h4⟩ := h
      rw [h1, h2, pnb_take x k _ h4]
      cases x with
      | nil => simp
      | cons d x =>
        cases k with
        | zero => rfl
        | succ k => simpa [hdN] using h3
    | false =>
      rw [if_neg (by rw [hc]; decide)] at h
      rw [if_neg (by decide)]
      exact pnb_take x k _ h
theorem pnb_lo : ∀ (x : T) (p : Bool), pnb p x = true → pnb p (lo x) = true
  | [], _, _ => rfl
  | c :: x, p, h => by
    rw [pnb] at h
    rw [show lo (c :: x) = Lib.lowerB c :: lo x from rfl, pnb, spB_lo]
    cases hc : spB c with
    | true =>
      rw [if_pos hc] at h
      rw [if_pos rfl]
      simp only [Bool.and_eq_true] at h
      obtain ⟨⟨⟨h1, h2⟩, h3⟩, h4⟩ := h
      have hc32 : c = 32 := by simpa using h1
      rw [h2, pnb_lo x _ h4, hc32, show (Lib.lowerB 32 == 32) = true by decide]
      cases x with
      | nil => rfl
      | cons d x => simpa [hdN, lo, spB_lo] using h3
    | false =>
      rw [if_neg (by rw [hc]; decide)] at h
      rw [if_neg (by decide)]
      exact pnb_lo x _ h
theorem hdN_nb : ∀ {r : T} {p : Bool}, hdN r = true → nb false r = true → nb p r = true
  | [], _, h, _ => by cases h
  | d :: r, p, h, h2 => by
    have hd : spB d = false := by simpa [hdN] using h
    rw [nb, if_neg (by rw [hd]; decide)] at h2 ⊢
    exact h2
theorem pnb_app : ∀ {x r : T} {p : Bool}, pnb p x = true → hdN r = true → nb false r = true → nb p (x ++ r) = true
  | [], r, p, _, h2, h3 => hdN_nb h2 h3
  | c :: x, r, p, h, h2, h3 => by
    rw [pnb] at h
    rw [List.cons_append, nb]
    cases hc : spB c with
    | true =>
      rw [if_pos hc] at h
      rw [if_pos rfl]
      simp only [Bool.and_eq_true] at h ⊢
      obtain ⟨⟨⟨h1, h4⟩, h5⟩, h6⟩ := h
      refine ⟨⟨⟨h1, h4⟩, ?_⟩, pnb_app h6 h2 h3⟩
      cases x with
      | nil => exact h2
      | cons d x => simpa [hdN] using h5
    | false =>
      rw [if_neg (by rw [hc]; decide)] at h
      rw [if_neg (by decide)]
      exact pnb_app h h2 h3
theorem nb_none : ∀ {l : T} (p : Bool), (∀ c ∈ l, spB c = false) → nb p l = true
  | [], _, _ => rfl
  | c :: r, p, h => by
    rw [nb, if_neg (by rw [h c (by simp)]; decide)]
    exact nb_none true fun d hd => h d (by simp [hd])
theorem tr_none {l : T} (h : ∀ c ∈ l, spB c = false) : tr l = l := trF_nb l false (nb_none false h)
theorem tr_eq {l : T} (h : nb false l = true) : tr l = l := trF_nb l false h
theorem nb_tr (l : T) : nb false (tr l) = true := nb_trF l false false (fun q => q)
theorem trF_mem : ∀ (l : T) (s g : Bool) (c : UInt8), c ∈ trF s g l → c ∈ l ∨ c = 32
  | [], _, _, c, h => by simp [trF] at h
  | d :: r, s, g, c, h => by
    cases hd : spB d with
    | true =>
      rw [trF_sp hd] at h
      rcases trF_mem r _ _ c h with q | q
      · exact Or.inl (by simp [q])
      · exact Or.inr q
    | false =>
      rw [trF_no hd, List.mem_append] at h
      rcases h with q | q
      · cases g with
        | true =>
          rw [if_pos rfl] at q
          simp at q
          rcases q with q | q
          · exact Or.inr q
          · exact Or.inl (by simp [q])
        | false =>
          rw [if_neg (by decide)] at q
          simp at q
          exact Or.inl (by simp [q])
      · rcases trF_mem r _ _ c q with q | q
        · exact Or.inl (by simp [q])
        · exact Or.inr q
theorem tr_wrap (s : T) : tr (32 :: (s ++ [10])) = tr s := by
  unfold tr
  rw [trF_sp (by decide), trF_cut]
  simp [trF]
/-! the parts of what is told -/
theorem hd_slashed (x : T) : (slashed x).head? = some 47 := by
  unfold slashed
  split
  · assumption
  · rfl
theorem slashed_nb {x : T} (h : nb false x = true) : nb false (slashed x) = true := by
  unfold slashed
  split
  · exact h
  · rw [nb, if_neg (by decide)]; exact nb_mono h
theorem slashed_hdN (x : T) : hdN (slashed x) = true := by
  have h := hd_slashed x
  cases hs : slashed x with
  | nil => rw [hs] at h; cases h
  | cons d r =>
    rw [hs] at h
    cases h
    rfl
theorem slashed_cons (x : T) : ∃ r, slashed x = 47 :: r := by
  have h := hd_slashed x
  cases hs : slashed x with
  | nil => rw [hs] at h; cases h
  | cons d r => rw [hs] at h; cases h; exact ⟨r, rfl⟩
theorem slashed_mem {x : T} {c : UInt8} (h : c ∈ slashed x) : c ∈ x ∨ c = 47 := by
  unfold slashed at h
  split at h
  · exact Or.inl h
  · rcases List.mem_cons.1 h with q | q
    · exact Or.inr q
    · exact Or.inl q
theorem slashed_eq {x : T} (h : x.head? = some 47) : slashed x = x := by unfold slashed; rw [if_pos h]
theorem takeWhile_mem {p : UInt8 → Bool} : ∀ {l : T} {c : UInt8}, c ∈ l.takeWhile p → p c = true ∧ c ∈ l
  | [], c, h => by simp at h
  | a :: r, c, h => by
    rw [List.takeWhile_cons] at h
    split at h
    · rename_i hp
      rcases List.mem_cons.1 h with q | q
      · subst q; exact ⟨hp, by simp⟩
      · have := takeWhile_mem q
        exact ⟨this.1, by simp [this.2]⟩
    · simp at h
theorem takeWhile_all {p : UInt8 → Bool} : ∀ {l : T}, (∀ c ∈ l, p c = true) → l.takeWhile p = l
  | [], _ => rfl
  | a :: r, h => by
    rw [List.takeWhile_cons, if_pos (h a (by simp)), takeWhile_all fun c hc => h c (by simp [hc])]
theorem takeWhile_stop {p : UInt8 → Bool} : ∀ {l : T} {d : UInt8} {r : T}, (∀ c ∈ l, p c = true) → p d = false → (l ++ d :: r).takeWhile p = l ∧ (l ++ d :: r).dropWhile p = d :: r
  | [], d, r, _, hd => by
    rw [List.nil_append, List.takeWhile_cons, List.dropWhile_cons, if_neg (by rw [hd]; decide), if_neg (by rw [hd]; decide)]
    exact ⟨rfl, rfl⟩
  | a :: l, d, r, h, hd => by
    have ih := takeWhile_stop (l := l) (r := r) (fun c hc => h c (by simp [hc])) hd
    rw [List.cons_append, List.takeWhile_cons, List.dropWhile_cons, if_pos (h a (by simp)), if_pos (h a (by simp)), ih.1, ih.2]
    exact ⟨rfl, rfl⟩
theorem take_drop_while (p : UInt8 → Bool) (l : T) : l.takeWhile p ++ l.dropWhile p = l := List.takeWhile_append_dropWhile
theorem tw_take (p : UInt8 → Bool) (l : T) : l.take (l.takeWhile p).length = l.takeWhile p := by
  conv => lhs; arg 2; rw [← take_drop_while p l]
  rw [List.take_left]
theorem tw_drop (p : UInt8 → Bool) (l : T) : l.drop (l.takeWhile p).length = l.dropWhile p := by
  conv => lhs; arg 2; rw [← take_drop_while p l]
  rw [List.drop_left]
theorem stripF_more : ∀ (n m : Nat) (p h : T), h.length ≤ n → n ≤ m → p ≠ [] → stripF m p h = stripF n p h
  | 0, 0, _, _, _, _, _ => rfl
  | 0, m + 1, p, h, hn, _, hp => by
    have e : h = [] := List.length_eq_zero_iff.1 (by omega)
    subst e
    rw [stripF, stripF, if_neg]
    intro hq
    exact hp (List.suffix_nil.1 (List.isSuffixOf_iff_suffix.1 hq))
  | n + 1, 0, _, _, _, hm, _ => by omega
  | n + 1, m + 1, p, h, hn, hm, hp => by
    have h1 : 0 < p.length := List.length_pos_iff.2 hp
    rw [stripF, stripF]
    split
    · exact stripF_more n m p _ (by rw [List.length_take]; omega) (by omega) hp
    · rfl
theorem strip_step {p h : T} (hp : p ≠ []) (hq : p.isSuffixOf h = true) : strip p h = strip p (h.take (h.length - p.length)) := by
  have h1 : 0 < p.length := List.length_pos_iff.2 hp
  have h2 : p.length ≤ h.length := (List.isSuffixOf_iff_suffix.1 hq).length_le
  unfold strip
  obtain ⟨n, hn⟩ : ∃ n, h.length = n + 1 := ⟨h.length - 1, by omega⟩
  rw [hn, stripF, if_pos hq, hn]
  exact stripF_more _ _ p _ (Nat.le_refl _) (by rw [List.length_take]; omega) hp
theorem host_mem {p a : T} {c : UInt8} (h : c ∈ hostS p a) : isEnd c = false := by
  unfold hostS at h
  obtain ⟨k, hk⟩ := strip_pre p (lo (hostOf a))
  rw [hk] at h
  have h2 := List.mem_of_mem_take h
  unfold lo at h2
  rw [List.mem_map] at h2
  obtain ⟨d, hd, rfl⟩ := h2
  rw [isEnd_lo]
  have := (takeWhile_mem hd).1
  simpa using this
theorem rest_mem {a : T} {c : UInt8} (h : c ∈ restS a) : c ≠ 35 := by
  rcases slashed_mem h with q | q
  · rcases trF_mem _ _ _ c q with q | q
    · have := (takeWhile_mem q).1
      simpa using this
    · rw [q]; decide
  · rw [q]; decide
theorem stripF_not : ∀ (n : Nat) (p h : T), p ≠ [] → h.length ≤ n → p.isSuffixOf (stripF n p h) = false
  | 0, p, h, hp, hn => by
    have : h = [] := List.length_eq_zero_iff.1 (by omega)
    subst this
    rw [stripF]
    cases hq : p.isSuffixOf ([] : T) with
    | false => rfl
    | true =>
      have := List.isSuffixOf_iff_suffix.1 hq
      exact absurd (List.suffix_nil.1 this) hp
  | n + 1, p, h, hp, hn => by
    rw [stripF]
    cases hq : p.isSuffixOf h with
    | false => rw [if_neg (by decide)]; exact hq
    | true =>
      rw [if_pos rfl]
      refine stripF_not n p _ hp ?_
      have h1 : 0 < p.length := List.length_pos_iff.2 hp
      rw [List.length_take]; omega
theorem strip_not (p h : T) (hp : p ≠ []) : p.isSuffixOf (strip p h) = false := stripF_not _ p h hp (Nat.le_refl _)
theorem strip_id {p h : T} (hq : p.isSuffixOf h = false) : strip p h = h := by
  unfold strip
  cases h.length with
  | zero => rfl
  | succ n => rw [stripF, hq, if_neg (by decide)]
theorem lo_take (l : T) (k : Nat) : lo (l.take k) = (lo l).take k := by unfold lo; rw [List.map_take]
theorem lo_host (p a : T) : lo (hostS p a) = hostS p a := by
  unfold hostS
  obtain ⟨k, hk⟩ := strip_pre p (lo (hostOf a))
  rw [hk, lo_take, lo_lo]
theorem hostOf_web {p a y : T} (hp : p ≠ []) : hostS p (hostS p a ++ slashed y) = hostS p a := by
  obtain ⟨r, hr⟩ := slashed_cons y
  have h1 : hostOf (hostS p a ++ slashed y) = hostS p a := by
    unfold hostOf
    rw [hr]
    exact (takeWhile_stop (fun c hc => by rw [host_mem hc]; rfl) (by decide)).1
  show strip p (lo (hostOf (hostS p a ++ slashed y))) = hostS p a
  rw [h1, lo_host]
  exact strip_id (strip_not p _ hp)
theorem restOf_web {p a y : T} (hy : nb false y = true) (hm : ∀ c ∈ y, c ≠ 35) : restS (hostS p a ++ slashed y) = slashed y := by
  obtain ⟨r, hr⟩ := slashed_cons y
  have h1 : restOf (hostS p a ++ slashed y) = slashed y := by
    unfold restOf
    rw [hr]
    exact (takeWhile_stop (fun c hc => by rw [host_mem hc]; rfl) (by decide)).2
  unfold restS
  rw [h1]
  have h2 : toHash (slashed y) = slashed y := by
    unfold toHash
    refine takeWhile_all fun c hc => ?_
    rcases slashed_mem hc with q | q
    · simpa using hm c q
    · rw [q]; decide
  rw [h2, tr_eq (slashed_nb hy), slashed_eq (hd_slashed y)]
theorem rest_is (a : T) : ∃ y, restS a = slashed y ∧ nb false y = true ∧ ∀ c ∈ y, c ≠ 35 := by
  refine ⟨tr (toHash (restOf a)), rfl, nb_tr _, fun c hc => ?_⟩
  rcases trF_mem _ _ _ c hc with q | q
  · have := (takeWhile_mem q).1
    simpa using this
  · rw [q]; decide
theorem web_web {s p a : T} (hp : p ≠ []) : web s p (hostS p a ++ restS a) = web s p a := by
  obtain ⟨y, h1, h2, h3⟩ := rest_is a
  unfold web
  rw [h1, hostOf_web hp, restOf_web h2 h3]
/-- what is told of an address has its blanks in order -/
theorem web_nb {s p a t : T} {k : Nat} (hs : ∀ c ∈ s, spB c = false) (hs0 : s ≠ []) (ht : nb false t = true) (ha : a = t.drop k) : nb false (web s p a) = true := by
  obtain ⟨y, h1, h2, h3⟩ := rest_is a
  have hna : nb true a = true := by
    rw [ha]
    have := ht
    rw [← List.take_append_drop k t] at this
    exact nb_app_right this
  have hh : pnb true (hostS p a) = true := by
    unfold hostS
    obtain ⟨j, hj⟩ := strip_pre p (lo (hostOf a))
    rw [hj]
    refine pnb_take _ _ _ (pnb_lo _ _ ?_)
    have e := take_drop_while (fun c => !isEnd c) a
    rw [← e] at hna
    exact pnb_of hna
  have hb : nb true (hostS p a ++ restS a) = true := pnb_app hh (by rw [h1]; exact slashed_hdN y) (by rw [h1]; exact slashed_nb h2)
  have key : ∀ (s : T) (q : Bool), (∀ c ∈ s, spB c = false) → (s = [] → q = true) → nb q (s ++ (hostS p a ++ restS a)) = true := by
    intro s
    induction s with
    | nil => intro q _ hq; rw [List.nil_append, hq rfl]; exact hb
    | cons c s ih =>
      intro q hs _
      rw [List.cons_append, nb, if_neg (by rw [hs c (by simp)]; decide)]
      exact ih true (fun d hd => hs d (by simp [hd])) (fun _ => rfl)
  unfold web
  rw [List.append_assoc]
  exact key s false hs (fun e => absurd e hs0)
theorem begins_self (s x : T) (hl : lo s = s) : begins (s ++ x) s = true := by
  unfold begins
  rw [List.take_left, hl]
  simp
theorem begins_no2 (x : T) : begins (sch2 ++ x) sch1 = false := by
  unfold begins
  have e : (sch2 ++ x).take sch1.length = [104, 116, 116, 112, 115, 58, 47] := rfl
  rw [e]
  have : (lo [104, 116, 116, 112, 115, 58, 47] == sch1) = false := by decide
  rw [this, Bool.and_false]
theorem begins_both {t : T} (h1 : begins t sch1 = true) : begins t sch2 = false := by
  cases h2 : begins t sch2 with
  | false => rfl
  | true =>
    exfalso
    unfold begins at h1 h2
    simp only [Bool.and_eq_true, decide_eq_true_eq, beq_iff_eq] at h1 h2
    obtain ⟨_, h1⟩ := h1
    obtain ⟨_, h2⟩ := h2
    rw [lo_take] at h1 h2
    have e : (lo t).take sch1.length = ((lo t).take sch2.length).take sch1.length := by
      rw [List.take_take]; rfl
    rw [h2, h1] at e
    exact absurd e (by decide)
theorem norm_norm (s : T) : norm (norm s) = norm s := by
  have hn := nb_tr s
  show normT (tr (normT (tr s))) = normT (tr s)
  generalize tr s = t at *
  unfold normT
  by_cases h1 : begins t sch1 = true
  · rw [if_pos h1]
    rw [tr_eq (web_nb (by decide) (by decide) hn rfl)]
    have e : web sch1 port1 (t.drop 7) = sch1 ++ (hostS port1 (t.drop 7) ++ restS (t.drop 7)) := by unfold web; rw [List.append_assoc]
    have hb : begins (web sch1 port1 (t.drop 7)) sch1 = true := by rw [e]; exact begins_self _ _ (by decide)
    rw [if_pos hb]
    have hd : (web sch1 port1 (t.drop 7)).drop 7 = hostS port1 (t.drop 7) ++ restS (t.drop 7) := by rw [e]; rfl
    rw [hd]
    exact web_web (by decide)
  · rw [if_neg h1]
    by_cases h2 : begins t sch2 = true
    · rw [if_pos h2]
      rw [tr_eq (web_nb (by decide) (by decide) hn rfl)]
      have e : web sch2 port2 (t.drop 8) = sch2 ++ (hostS port2 (t.drop 8) ++ restS (t.drop 8)) := by unfold web; rw [List.append_assoc]
      have hb : begins (web sch2 port2 (t.drop 8)) sch2 = true := by rw [e]; exact begins_self _ _ (by decide)
      have hb1 : begins (web sch2 port2 (t.drop 8)) sch1 = false := by rw [e]; exact begins_no2 _
      rw [if_neg (by rw [hb1]; decide), if_pos hb]
      have hd : (web sch2 port2 (t.drop 8)).drop 8 = hostS port2 (t.drop 8) ++ restS (t.drop 8) := by rw [e]; rfl
      rw [hd]
      exact web_web (by decide)
    · rw [if_neg h2, tr_eq hn, if_neg h1, if_neg h2]
theorem norm_wrap (s : T) : norm (32 :: (s ++ [10])) = norm s := by
  unfold norm
  rw [tr_wrap]
/-! parts of an address -/
theorem plain_sp {c : UInt8} (h : 32 < c.toNat) : spB c = false := by
  unfold spB
  have e1 : (c.toNat == 9) = false := by simp; omega
  have e2 : (c.toNat == 10) = false := by simp; omega
  have e3 : (c.toNat == 13) = false := by simp; omega
  have e4 : (c.toNat == 32) = false := by simp; omega
  rw [e1, e2, e3, e4]; rfl
/-- letters and points -/
def hostB (c : UInt8) : Bool := decide ((97 ≤ c.toNat ∧ c.toNat ≤ 122) ∨ (65 ≤ c.toNat ∧ c.toNat ≤ 90) ∨ c.toNat = 46)
theorem hostB_sp {c : UInt8} (h : hostB c = true) : 32 < c.toNat := by
  unfold hostB at h
  rw [decide_eq_true_eq] at h
  omega
theorem hostB_end {c : UInt8} (h : hostB c = true) : isEnd c = false := by
  unfold hostB at h
  rw [decide_eq_true_eq] at h
  unfold isEnd
  have k : ∀ (d : UInt8), c.toNat ≠ d.toNat → (c == d) = false := fun d hd => by
    rw [beq_eq_false_iff_ne]; exact fun e => hd (by rw [e])
  have k1 := k 47 (by show c.toNat ≠ 47; omega)
  have k2 := k 63 (by show c.toNat ≠ 63; omega)
  have k3 := k 35 (by show c.toNat ≠ 35; omega)
  rw [k1, k2, k3]; rfl
/-- no digit stands in a host of letters and points -/
theorem hostB_lo {c : UInt8} (h : hostB c = true) : 57 < (Lib.lowerB c).toNat ∨ (Lib.lowerB c).toNat = 46 := by
  unfold hostB at h
  rw [decide_eq_true_eq] at h
  rcases lowerB_cases c with q | q
  · rw [q]; omega
  · omega
theorem strip_letters {p h : T} {d : UInt8} (hd : p.getLast? = some d) (hdig : 48 ≤ d.toNat ∧ d.toNat ≤ 57) (hh : ∀ c ∈ h, 57 < c.toNat ∨ c.toNat = 46) : p.isSuffixOf h = false := by
  cases hq : p.isSuffixOf h with
  | false => rfl
  | true =>
    exfalso
    obtain ⟨x, hx⟩ := List.isSuffixOf_iff_suffix.1 hq
    have hm : d ∈ h := by
      rw [← hx, List.mem_append]
      exact Or.inr (List.mem_of_getLast? hd)
    have := hh d hm
    omega
theorem strip_one {p h : T} (hp : p ≠ []) (hq : p.isSuffixOf h = false) : strip p (h ++ p) = h := by
  have hl : 0 < p.length := List.length_pos_iff.2 hp
  unfold strip
  obtain ⟨n, hn⟩ : ∃ n, (h ++ p).length = n + 1 := ⟨(h ++ p).length - 1, by rw [List.length_append]; omega⟩
  rw [hn, stripF, if_pos (List.isSuffixOf_iff_suffix.2 ⟨h, rfl⟩)]
  have e : (h ++ p).take ((h ++ p).length - p.length) = h := by
    rw [List.length_append, Nat.add_sub_cancel, List.take_left]
  rw [e]
  cases n with
  | zero => rfl
  | succ n => rw [stripF, hq, if_neg (by decide)]
/-- scheme, host, a port or none, rest, what stands behind a number sign or nothing: the usual form -/
theorem norm_parts {s p host rest tail q : T} (hsp : (s = sch1 ∧ p = port1) ∨ (s = sch2 ∧ p = port2)) (hh : ∀ c ∈ host, hostB c = true) (hr : ∀ c ∈ rest, 32 < c.toNat ∧ c ≠ 35) (ht : ∀ c ∈ tail, 32 < c.toNat)
    (hq : q = [] ∨ q = p) (htl : tail = [] ∨ ∃ m, tail = 35 :: m) : norm (s ++ (host ++ (q ++ (47 :: (rest ++ tail))))) = s ++ (lo host ++ (47 :: rest)) := by
  have hs : (∀ c ∈ s, spB c = false) ∧ lo s = s := by
    rcases hsp with ⟨rfl, rfl⟩ | ⟨rfl, rfl⟩
    · exact ⟨by decide, by decide⟩
    · exact ⟨by decide, by decide⟩
  have hps : (∀ c ∈ p, spB c = false ∧ isEnd c = false) ∧ lo p = p ∧ p ≠ [] := by
    rcases hsp with ⟨rfl, rfl⟩ | ⟨rfl, rfl⟩
    · exact ⟨by decide, by decide, by decide⟩
    · exact ⟨by decide, by decide, by decide⟩
  have hqm : ∀ c ∈ q, spB c = false ∧ isEnd c = false := by
    rcases hq with rfl | rfl
    · intro c hc; simp at hc
    · exact hps.1
  have hlq : lo q = q := by
    rcases hq with rfl | rfl
    · rfl
    · exact hps.2.1
  have hpl : ∃ d, p.getLast? = some d ∧ 48 ≤ d.toNat ∧ d.toNat ≤ 57 := by
    rcases hsp with ⟨rfl, rfl⟩ | ⟨rfl, rfl⟩
    · exact ⟨48, rfl, by decide, by decide⟩
    · exact ⟨51, rfl, by decide, by decide⟩
  obtain ⟨d, hd1, hd2⟩ := hpl
  have hnone : p.isSuffixOf (lo host) = false := by
    refine strip_letters hd1 hd2 fun c hc => ?_
    unfold lo at hc
    rw [List.mem_map] at hc
    obtain ⟨e, he, rfl⟩ := hc
    exact hostB_lo (hh e he)
  have hstrip : strip p (lo (host ++ q)) = lo host := by
    have e : lo (host ++ q) = lo host ++ q := by
      have : lo (host ++ q) = lo host ++ lo q := by unfold lo; rw [List.map_append]
      rw [this, hlq]
    rw [e]
    rcases hq with rfl | rfl
    · rw [List.append_nil]; exact strip_id hnone
    · exact strip_one hps.2.2 hnone
  have hsplit := takeWhile_stop (p := fun c => !isEnd c) (l := host ++ q) (d := 47) (r := rest ++ tail) (fun c hc => by
    rcases List.mem_append.1 hc with h | h
    · rw [hostB_end (hh c h)]; rfl
    · rw [(hqm c h).2]; rfl) (by decide)
  have hasc : (host ++ q) ++ 47 :: (rest ++ tail) = host ++ (q ++ (47 :: (rest ++ tail))) := by rw [List.append_assoc]
  rw [hasc] at hsplit
  have htr : tr (s ++ (host ++ (q ++ (47 :: (rest ++ tail))))) = s ++ (host ++ (q ++ (47 :: (rest ++ tail)))) := by
    refine tr_none fun c hc => ?_
    simp only [List.mem_append, List.mem_cons] at hc
    rcases hc with h | h | h | h | h | h
    · exact hs.1 c h
    · exact plain_sp (hostB_sp (hh c h))
    · exact (hqm c h).1
    · rw [h]; decide
    · exact plain_sp (hr c h).1
    · exact plain_sp (ht c h)
  have hhash : toHash (47 :: (rest ++ tail)) = 47 :: rest := by
    unfold toHash
    have hall : ∀ c ∈ (47 :: rest : T), (c != 35) = true := fun c hc => by
      rcases List.mem_cons.1 hc with h | h
      · rw [h]; decide
      · simpa using (hr c h).2
    rcases htl with rfl | ⟨m, rfl⟩
    · rw [List.append_nil]; exact takeWhile_all hall
    · rw [← List.cons_append]; exact (takeWhile_stop hall (by decide)).1
  have hrest : restS (host ++ (q ++ (47 :: (rest ++ tail)))) = 47 :: rest := by
    unfold restS restOf
    rw [hsplit.2, hhash]
    have : tr (47 :: rest) = 47 :: rest := tr_none fun c hc => by
      rcases List.mem_cons.1 hc with h | h
      · rw [h]; decide
      · exact plain_sp (hr c h).1
    rw [this]
    exact slashed_eq rfl
  have hhost : hostS p (host ++ (q ++ (47 :: (rest ++ tail)))) = lo host := by
    unfold hostS hostOf
    rw [hsplit.1]; exact hstrip
  unfold norm
  rw [htr]
  have hweb : web s p (host ++ (q ++ (47 :: (rest ++ tail)))) = s ++ (lo host ++ (47 :: rest)) := by
    unfold web
    rw [hhost, hrest, List.append_assoc]
  rcases hsp with ⟨rfl, rfl⟩ | ⟨rfl, rfl⟩
  · unfold normT
    rw [if_pos (begins_self _ _ hs.2)]
    exact hweb
  · unfold normT
    rw [if_neg (by rw [begins_no2]; decide), if_pos (begins_self _ _ hs.2)]
    exact hweb
end Go.Proofs.YtpkkpjonlogliaaDoor.Idn
