/- Several texts of this seat, one behind the other. -/
import Derived.Test.YtflhmgnhjnaiiaaGreatDoorEnPure
set_option linter.unusedSimpArgs false
/- Plain mathematics of documents in pieces: the words that both the program's and the document's answers are told in. -/
set_option linter.unusedVariables false
namespace Go.Proofs.YtflhmgnhjnaiiaaGreatDoor.Xm
open En
abbrev B := List UInt8
abbrev Atr := B × B
/-- a piece: kind, name, text, attributes -/
abbrev Tk := Int × B × B × List Atr
instance tkDec : DecidableEq Tk := @instDecidableEqProd Int (B × B × List Atr) Int.instDecidableEq inferInstance
def tO (n : B) (a : List Atr) : Tk := (0, n, [], a)
def tC (n : B) : Tk := (1, n, [], [])
def tX (t : B) : Tk := (2, [], t, [])
/-- may a byte stand in a name? At its beginning? -/
def sgn (first : Bool) (c : UInt8) : Bool :=
  decide (65 ≤ c.toNat ∧ c.toNat ≤ 90) || decide (97 ≤ c.toNat ∧ c.toNat ≤ 122) || c == 95 || (!first && (decide (48 ≤ c.toNat ∧ c.toNat ≤ 57) || c == 45 || c == 46 || c == 58))
def allN : B → Bool
  | [] => true
  | c :: r => sgn true c && r.all (sgn false)
def isN (s : B) : Bool := decide (1 ≤ s.length) && decide (s.length ≤ 60) && allN s
/-- what stands behind the last colon -/
def locF : B → B → B
  | cur, [] => cur
  | cur, c :: r => if c = 58 then locF r r else locF cur r
def loc (s : B) : B := locF s s
/-- a name that is taken, and what is left -/
def nmS : B → B × B
  | [] => ([], [])
  | c :: r => if sgn true c = true then (c :: r.takeWhile (sgn false), r.dropWhile (sgn false)) else ([], c :: r)
/-- up to the next such text: what stands ahead, and what is left behind -/
def upt (p : B) : B → Option (B × B)
  | [] => if p = [] then some ([], []) else none
  | c :: r => if p.isPrefixOf (c :: r) = true then some ([], (c :: r).drop p.length) else (upt p r).map fun x => (c :: x.1, x.2)
def skip (r : B) : B := r.dropWhile spB
def atr (r : B) : Option (Atr × B) :=
  if isN (nmS r).1 = true then
    match (nmS r).2 with
    | 61 :: q :: t => if q = 34 ∨ q = 39 then
        match upt [q] t with
        | some (raw, u) => if 60 ∈ raw then none else if (gone raw).2 = true then some (((nmS r).1, (gone raw).1), u) else none
        | none => none
      else none
    | _ => none
  else none
/-- does a tag end? -/
def tagEnd : B → Bool
  | 62 :: _ => true
  | 47 :: 62 :: _ => true
  | _ => false
def atrs : Nat → B → List Atr → Option (List Atr × B)
  | 0, _, _ => none
  | f + 1, r, acc =>
    if tagEnd (skip r) = true then some (acc, skip r)
    else if (skip r).length = r.length ∨ skip r = [] then none
    else match atr (skip r) with
      | none => none
      | some (a, u) => if (acc.map (·.1)).contains a.1 = true then none else atrs f u (acc ++ [a])
structure St where
  r : B
  o : List B
  n : Nat
  l : List Tk
inductive Re where
  | ok (s : St) : Re
  | er (e : Int) : Re
def put (s : B) (o : List B) (l : List Tk) : List Tk := if s = [] ∨ o = [] then l else l ++ [tX s]
def shut (nm r : B) (s : St) : Re := if s.o.getLast? = some nm then .ok ⟨r, s.o.dropLast, s.n, s.l ++ [tC nm]⟩ else .er 2
def plainS (s : St) : Re :=
  let a := s.r.takeWhile (· != 60)
  if (gone a).2 = false ∨ (s.o = [] ∧ a.all spB = false) then .er 2 else .ok ⟨s.r.dropWhile (· != 60), s.o, s.n, put (gone a).1 s.o s.l⟩
def passS (p : B) (k : Nat) (s : St) : Re := match upt p (s.r.drop k) with
  | none => .er 2
  | some (_, u) => .ok ⟨u, s.o, s.n, s.l⟩
def dataS (s : St) : Re := match upt [93, 93, 62] (s.r.drop 9) with
  | none => .er 2
  | some (a, u) => if s.o = [] then .er 2 else .ok ⟨u, s.o, s.n, put a s.o s.l⟩
def endS (s : St) : Re :=
  let m := nmS (s.r.drop 2)
  if isN m.1 = true then
    match skip m.2 with
    | 62 :: u => shut m.1 u s
    | _ => .er 2
  else .er 2
def openS (s : St) : Re :=
  let m := nmS (s.r.drop 1)
  if isN m.1 = true then
    match atrs (m.2.length + 1) m.2 [] with
    | none => .er 2
    | some (as, u) =>
      if s.o = [] ∧ 1 ≤ s.n then .er 2
      else if 20 < s.o.length + 1 then .er 5
      else
        let s' : St := ⟨[], s.o ++ [m.1], if s.o = [] then s.n + 1 else s.n, s.l ++ [tO m.1 as]⟩
        match u with
        | 62 :: v => .ok ⟨v, s'.o, s'.n, s'.l⟩
        | 47 :: 62 :: v => shut m.1 v s'
        | _ => .er 2
  else .er 2
def pCom : B := [60, 33, 45, 45]
def pAsk : B := [60, 63]
def pData : B := [60, 33, 91, 67, 68, 65, 84, 65, 91]
def pOdd : B := [60, 33]
def pEnd : B := [60, 47]
def step (s : St) : Re :=
  if s.r.head? ≠ some 60 then plainS s
  else if pCom.isPrefixOf s.r = true then passS [45, 45, 62] 4 s
  else if pAsk.isPrefixOf s.r = true then passS [63, 62] 2 s
  else if pData.isPrefixOf s.r = true then dataS s
  else if pOdd.isPrefixOf s.r = true then passS [62] 2 s
  else if pEnd.isPrefixOf s.r = true then endS s
  else openS s
def run : Nat → St → Re
  | 0, s => .ok s
  | f + 1, s => if s.r = [] then .ok s else match step s with
    | .er e => .er e
    | .ok s' => run f s'
/-- the pieces, and the error -/
def tok (b : B) : List Tk × Int :=
  if 100000 < b.length then ([], 4) else
  match run b.length ⟨b, [], 0, []⟩ with
  | .er e => ([], e)
  | .ok s => if s.o ≠ [] ∨ s.n = 0 then ([], 2) else (s.l, 0)
def wrA (a : Atr) : B := 32 :: a.1 ++ 61 :: 34 :: enc a.2 ++ [34]
def wrK (t : Tk) : B := if t.1 = 0 then 60 :: t.2.1 ++ t.2.2.2.flatMap wrA ++ [62] else if t.1 = 1 then 60 :: 47 :: t.2.1 ++ [62] else enc t.2.2.1
def wrAll (l : List Tk) : B := l.flatMap wrK
/-- what is written, and the error -/
def wri (l : List Tk) : B × Int := if tok (wrAll l) = (l, 0) then (wrAll l, 0) else ([], 1)
/-! a step takes something -/
theorem upt_len {p : B} (hp : p ≠ []) : ∀ {r a u : B}, upt p r = some (a, u) → u.length < r.length ∧ r = a ++ p ++ u
  | [], a, u, h => by
    rw [upt, if_neg hp] at h; cases h
  | c :: r, a, u, h => by
    rw [upt] at h
    have hpl := List.length_pos_iff.2 hp
    by_cases q : p.isPrefixOf (c :: r) = true
    · rw [if_pos q] at h
      simp only [Option.some.injEq, Prod.mk.injEq] at h
      obtain ⟨rfl, rfl⟩ := h
      obtain ⟨x, hx⟩ := List.isPrefixOf_iff_prefix.1 q
      rw [← hx]
      simp; omega
    · rw [if_neg q] at h
      simp only [Option.map_eq_some_iff] at h
      obtain ⟨⟨a', u'⟩, h1, h2⟩ := h
      simp only [Prod.mk.injEq] at h2
      obtain ⟨rfl, rfl⟩ := h2
      have := upt_len hp h1
      exact ⟨by simp; omega, by rw [this.2]; simp⟩
theorem nmS_eq (r : B) : r = (nmS r).1 ++ (nmS r).2 := by
  cases r with
  | nil => rfl
  | cons c r =>
    rw [nmS]
    split
    · simp
    · rfl
theorem nmS_len (r : B) : (nmS r).2.length + (nmS r).1.length = r.length := by
  have := congrArg List.length (nmS_eq r)
  rw [List.length_append] at this; omega
theorem skip_len (r : B) : (skip r).length ≤ r.length := by
  unfold skip; exact (List.dropWhile_suffix _).length_le
theorem atr_len {r u : B} {a : Atr} (h : atr r = some (a, u)) : u.length < r.length := by
  unfold atr at h
  split at h
  · split at h
    · rename_i q t e
      split at h
      · split at h
        · rename_i raw v e2
          have h1 := (upt_len (by simp) e2).1
          have h2 := nmS_len r
          rw [e] at h2
          split at h
          · cases h
          · split at h
            · simp only [Option.some.injEq, Prod.mk.injEq] at h
              obtain ⟨_, rfl⟩ := h
              simp at h2; omega
            · cases h
        · cases h
      · cases h
    · cases h
  · cases h
theorem atrs_len : ∀ (f : Nat) (r : B) (acc : List Atr) (as : List Atr) (u : B), atrs f r acc = some (as, u) → u.length ≤ r.length ∧ tagEnd u = true
  | 0, _, _, _, _, h => by cases h
  | f + 1, r, acc, as, u, h => by
    rw [atrs] at h
    have hs := skip_len r
    by_cases q : tagEnd (skip r) = true
    · rw [if_pos q] at h
      simp only [Option.some.injEq, Prod.mk.injEq] at h
      obtain ⟨_, rfl⟩ := h
      exact ⟨hs, q⟩
    · rw [if_neg q] at h
      split at h
      · cases h
      · split at h
        · cases h
        · rename_i a v e
          have := atr_len e
          split at h
          · cases h
          · have := atrs_len f _ _ _ _ h
            exact ⟨by omega, this.2⟩
theorem shut_ok {nm r : B} {s s' : St} (h : shut nm r s = .ok s') : s.o.getLast? = some nm ∧ s' = ⟨r, s.o.dropLast, s.n, s.l ++ [tC nm]⟩ := by
  unfold shut at h
  split at h
  · cases h; exact ⟨by assumption, rfl⟩
  · cases h
theorem step_len {s s' : St} (hr : s.r ≠ []) (h : step s = .ok s') : s'.r.length < s.r.length := by
  obtain ⟨r, o, n, l⟩ := s
  simp only at hr
  cases r with
  | nil => exact absurd rfl hr
  | cons c r =>
    have pass : ∀ (p : B) (k : Nat), p ≠ [] → 1 ≤ k → passS p k ⟨c :: r, o, n, l⟩ = .ok s' → s'.r.length < (c :: r).length := fun p k hp hk h => by
      unfold passS at h
      split at h
      · cases h
      · rename_i a u e
        cases h
        have := (upt_len hp e).1
        simp only [List.length_drop, List.length_cons] at this ⊢
        omega
    unfold step at h
    split at h
    · rename_i hc
      simp only [List.head?_cons, ne_eq, Option.some.injEq] at hc
      unfold plainS at h
      simp only at h
      split at h
      · cases h
      · cases h
        simp only
        rw [List.dropWhile_cons, if_pos (by simp [hc])]
        have := (List.dropWhile_suffix (fun x : UInt8 => x != 60) (l := r)).length_le
        simp; omega
    split at h
    · exact pass _ _ (by simp) (by omega) h
    split at h
    · exact pass _ _ (by simp) (by omega) h
    split at h
    · unfold dataS at h
      split at h
      · cases h
      · rename_i a u e
        split at h
        · cases h
        · cases h
          have := (upt_len (by simp) e).1
          simp only [List.length_drop, List.length_cons] at this ⊢
          omega
    split at h
    · exact pass _ _ (by simp) (by omega) h
    split at h
    · unfold endS at h
      simp only at h
      split at h
      · split at h
        · rename_i u e
          obtain ⟨_, rfl⟩ := shut_ok h
          have h1 := skip_len (nmS ((c :: r).drop 2)).2
          have h2 := nmS_len ((c :: r).drop 2)
          rw [e] at h1
          simp only [List.length_drop, List.length_cons] at h1 h2 ⊢
          omega
        · cases h
      · cases h
    · unfold openS at h
      simp only at h
      split at h
      · split at h
        · cases h
        · rename_i as u e
          have h1 := (atrs_len _ _ _ _ _ e).1
          have h2 := nmS_len ((c :: r).drop 1)
          simp only [List.length_drop, List.length_cons] at h2
          split at h
          · cases h
          · split at h
            · cases h
            · split at h
              · cases h
                simp only [List.length_cons] at h1 ⊢
                omega
              · obtain ⟨_, rfl⟩ := shut_ok h
                simp only [List.length_cons] at h1 ⊢
                omega
              · cases h
      · cases h
theorem run_more : ∀ (f g : Nat) (s : St), s.r.length ≤ f → f ≤ g → run g s = run f s
  | 0, 0, _, _, _ => rfl
  | 0, g + 1, s, h, _ => by
    have : s.r = [] := List.length_eq_zero_iff.1 (by omega)
    show run (g + 1) s = .ok s
    rw [run.eq_2, if_pos this]
  | f + 1, g + 1, s, h, h2 => by
    rw [run, run]
    by_cases q : s.r = []
    · rw [if_pos q, if_pos q]
    · rw [if_neg q, if_neg q]
      cases e : step s with
      | er e => rfl
      | ok s' =>
        have := step_len q e
        exact run_more f g s' (by omega) (by omega)
end Go.Proofs.YtflhmgnhjnaiiaaGreatDoor.Xm
/- Plain mathematics of documents: pieces that are read are of one another; what is written of them is read again. -/
set_option linter.unusedVariables false
namespace Go.Proofs.YtflhmgnhjnaiiaaGreatDoor.Xm
open En
def goodA (as : List Atr) : Prop := (∀ a ∈ as, isN a.1 = true) ∧ (as.map (·.1)).Nodup
/-- pieces that may come where these elements are open, and so many were opened outside -/
def okL : List B → Nat → List Tk → Prop
  | o, n, [] => o = [] ∧ 1 ≤ n
  | o, n, t :: l =>
    (∃ nm as, t = tO nm as ∧ isN nm = true ∧ goodA as ∧ (o = [] → n = 0) ∧ o.length < 20 ∧ okL (o ++ [nm]) (if o = [] then n + 1 else n) l)
    ∨ (∃ nm, t = tC nm ∧ o.getLast? = some nm ∧ okL o.dropLast n l)
    ∨ (∃ x, t = tX x ∧ x ≠ [] ∧ o ≠ [] ∧ okL o n l)
theorem gone_len : ∀ (n : Nat) (l : B), (goF n l).1.length ≤ l.length
  | 0, l => by simp [goF]
  | n + 1, [] => by simp [goF]
  | n + 1, c :: r => by
    rw [goF]
    by_cases hc : c = 38
    · rw [if_pos hc]
      cases he : en r with
      | none => have := gone_len n r; simp; omega
      | some p =>
        obtain ⟨x, k⟩ := p
        have h1 := gone_len n (r.drop k)
        have h2 := (en_app [] he).2
        unfold en at he
        cases hb : bdF 11 [] r with
        | none => rw [hb] at he; cases he
        | some b =>
          rw [hb] at he
          simp only [Option.bind_some, Option.map_eq_some_iff, Prod.mk.injEq] at he
          obtain ⟨y, hy, rfl, rfl⟩ := he
          have h3 := sg_len hy
          simp only [List.length_append, List.length_drop, List.length_cons] at h1 ⊢
          omega
    · rw [if_neg hc]
      have := gone_len n r; simp; omega
theorem gone_le (l : B) : (gone l).1.length ≤ l.length := gone_len _ _
theorem atr_good {r u : B} {a : Atr} (h : atr r = some (a, u)) : isN a.1 = true ∧ (wrA a).length + 6 * u.length + 6 ≤ 6 * r.length + 1 := by
  unfold atr at h
  split at h
  · rename_i hn
    split at h
    · rename_i q t e
      split at h
      · split at h
        · rename_i raw v e2
          have h1 := (upt_len (by simp) e2)
          have h2 := nmS_len r
          rw [e] at h2
          have h3 := congrArg List.length h1.2
          split at h
          · cases h
          · split at h
            · simp only [Option.some.injEq, Prod.mk.injEq] at h
              obtain ⟨rfl, rfl⟩ := h
              refine ⟨hn, ?_⟩
              have h4 := gone_le raw
              have h5 := enc_len (gone raw).1
              unfold wrA
              simp only [List.length_append, List.length_cons, List.length_nil] at h2 h3 ⊢
              omega
            · cases h
        · cases h
      · cases h
    · cases h
  · cases h
theorem atrs_good : ∀ (f : Nat) (r : B) (acc as : List Atr) (u : B), atrs f r acc = some (as, u) → goodA acc → goodA as ∧ (as.flatMap wrA).length + 6 * u.length ≤ (acc.flatMap wrA).length + 6 * r.length
  | 0, _, _, _, _, h, _ => by cases h
  | f + 1, r, acc, as, u, h, hg => by
    rw [atrs] at h
    have hs := skip_len r
    by_cases q : tagEnd (skip r) = true
    · rw [if_pos q] at h
      simp only [Option.some.injEq, Prod.mk.injEq] at h
      obtain ⟨rfl, rfl⟩ := h
      exact ⟨hg, by omega⟩
    · rw [if_neg q] at h
      split at h
      · cases h
      · rename_i hns
        split at h
        · cases h
        · rename_i a v e
          have hg2 := atr_good e
          split at h
          · cases h
          · rename_i hnc
            have hgn : goodA (acc ++ [a]) := by
              refine ⟨fun x hx => ?_, ?_⟩
              · rcases List.mem_append.1 hx with hx | hx
                · exact hg.1 x hx
                · simp only [List.mem_singleton] at hx; subst hx; exact hg2.1
              · rw [List.map_append, List.nodup_append]
                refine ⟨hg.2, by simp, fun x hx y hy e => ?_⟩
                simp only [List.map_cons, List.map_nil, List.mem_singleton] at hy
                subst hy e
                exact hnc (by rw [List.contains_iff_mem]; exact hx)
            have := atrs_good f _ _ _ _ h hgn
            refine ⟨this.1, ?_⟩
            have h1 := this.2
            rw [List.flatMap_append, List.length_append] at h1
            have h2 := hg2.2
            simp only [List.flatMap_cons, List.flatMap_nil, List.append_nil] at h1
            omega
theorem put_d (s : B) (o : List B) (l : List Tk) : ∃ d, put s o l = l ++ d ∧ (d = [] ∨ (d = [tX s] ∧ s ≠ [] ∧ o ≠ [])) := by
  unfold put
  split
  · exact ⟨[], by simp, Or.inl rfl⟩
  · rename_i h
    simp only [not_or] at h
    exact ⟨_, rfl, Or.inr ⟨rfl, h.1, h.2⟩⟩
theorem wrAll_app (a b : List Tk) : wrAll (a ++ b) = wrAll a ++ wrAll b := by unfold wrAll; rw [List.flatMap_append]
theorem wrK_O (nm : B) (as : List Atr) : wrK (tO nm as) = 60 :: nm ++ as.flatMap wrA ++ [62] := rfl
theorem wrK_C (nm : B) : wrK (tC nm) = 60 :: 47 :: nm ++ [62] := rfl
theorem wrK_X (x : B) : wrK (tX x) = enc x := rfl
theorem wrAll_one (t : Tk) : wrAll [t] = wrK t := by unfold wrAll; simp
/-- what a step adds -/
structure Add (s s' : St) (d : List Tk) : Prop where
  l : s'.l = s.l ++ d
  ok : ∀ x, okL s'.o s'.n x → okL s.o s.n (d ++ x)
  len : (wrAll d).length + 6 * s'.r.length ≤ 6 * s.r.length
theorem add_nil {r r' : B} {o : List B} {n : Nat} {l : List Tk} (h : r'.length ≤ r.length) : Add ⟨r, o, n, l⟩ ⟨r', o, n, l⟩ [] :=
  ⟨by simp, fun x h => h, by simp [wrAll]; omega⟩
theorem add_put {r r' : B} {o : List B} {n : Nat} {l : List Tk} {a : B} (h : a.length + r'.length ≤ r.length) : ∃ d, Add ⟨r, o, n, l⟩ ⟨r', o, n, put a o l⟩ d := by
  obtain ⟨d, h1, h2⟩ := put_d a o l
  rw [h1]
  rcases h2 with rfl | ⟨rfl, h3, h4⟩
  · exact ⟨[], by simp, fun x h => h, by simp [wrAll]; omega⟩
  · refine ⟨[tX a], rfl, fun x hx => Or.inr (Or.inr ⟨a, rfl, h3, h4, hx⟩), ?_⟩
    rw [wrAll_one, wrK_X]
    have := enc_len a
    simp only
    omega
theorem step_add {s s' : St} (hr : s.r ≠ []) (h : step s = .ok s') : ∃ d, Add s s' d := by
  obtain ⟨r, o, n, l⟩ := s
  simp only at hr
  have pass : ∀ (p : B) (k : Nat), p ≠ [] → passS p k ⟨r, o, n, l⟩ = .ok s' → ∃ d, Add ⟨r, o, n, l⟩ s' d := fun p k hp h => by
    unfold passS at h
    split at h
    · cases h
    · rename_i a u e
      cases h
      have h1 : u.length < (r.drop k).length := (upt_len hp e).1
      rw [List.length_drop] at h1
      exact ⟨[], add_nil (by omega)⟩
  unfold step at h
  split at h
  · unfold plainS at h
    simp only at h
    split at h
    · cases h
    · cases h
      refine add_put ?_
      have h1 := gone_le (r.takeWhile (· != 60))
      have h2 := congrArg List.length (List.takeWhile_append_dropWhile (p := fun x : UInt8 => x != 60) (l := r))
      rw [List.length_append] at h2
      omega
  split at h
  · exact pass _ _ (by simp) h
  split at h
  · exact pass _ _ (by simp) h
  split at h
  · unfold dataS at h
    split at h
    · cases h
    · rename_i a u e
      split at h
      · cases h
      · cases h
        refine add_put ?_
        have := congrArg List.length (upt_len (by simp) e).2
        simp only [List.length_append, List.length_drop, List.length_cons, List.length_nil] at this
        omega
  split at h
  · exact pass _ _ (by simp) h
  split at h
  · unfold endS at h
    simp only at h
    split at h
    · split at h
      · rename_i u e
        obtain ⟨hg, rfl⟩ := shut_ok h
        have h1 := skip_len (nmS (r.drop 2)).2
        have h2 := nmS_len (r.drop 2)
        rw [e] at h1
        refine ⟨[tC (nmS (r.drop 2)).1], rfl, fun x hx => Or.inr (Or.inl ⟨_, rfl, hg, hx⟩), ?_⟩
        rw [wrAll_one, wrK_C]
        simp only [List.length_drop, List.length_cons, List.length_append, List.length_nil] at h1 h2 ⊢
        omega
      · cases h
    · cases h
  · unfold openS at h
    simp only at h
    split at h
    · rename_i hn
      split at h
      · cases h
      · rename_i as u e
        obtain ⟨hg, hlen⟩ := atrs_good _ _ _ _ _ e ⟨fun a ha => (by cases ha), by simp⟩
        have h2 := nmS_len (r.drop 1)
        simp only [List.length_drop] at h2
        split at h
        · cases h
        · rename_i hroot
          split at h
          · cases h
          · rename_i hdeep
            have hno : o = [] → n = 0 := fun ho => by
              by_cases q : 1 ≤ n
              · exact absurd ⟨ho, q⟩ hroot
              · omega
            have hO : ∀ x, okL (o ++ [(nmS (r.drop 1)).1]) (if o = [] then n + 1 else n) x → okL o n (tO (nmS (r.drop 1)).1 as :: x) := fun x hx =>
              Or.inl ⟨_, _, rfl, hn, hg, hno, by omega, hx⟩
            split at h
            · cases h
              refine ⟨[tO (nmS (r.drop 1)).1 as], rfl, hO, ?_⟩
              rw [wrAll_one, wrK_O]
              simp only [List.flatMap_nil, List.length_cons, List.length_append, List.length_nil] at hlen ⊢
              omega
            · rename_i v
              obtain ⟨hg2, rfl⟩ := shut_ok h
              refine ⟨[tO (nmS (r.drop 1)).1 as, tC (nmS (r.drop 1)).1], by simp, fun x hx => ?_, ?_⟩
              · refine hO _ (Or.inr (Or.inl ⟨_, rfl, by simp, ?_⟩))
                simpa using hx
              · rw [show ([tO (nmS (r.drop 1)).1 as, tC (nmS (r.drop 1)).1] : List Tk) = [tO (nmS (r.drop 1)).1 as] ++ [tC (nmS (r.drop 1)).1] from rfl, wrAll_app, wrAll_one, wrAll_one, wrK_O, wrK_C]
                simp only [List.flatMap_nil, List.length_cons, List.length_append, List.length_nil] at hlen ⊢
                omega
            · cases h
    · cases h
theorem Add.trans {s s' s'' : St} {d d' : List Tk} (h : Add s s' d) (k : Add s' s'' d') : Add s s'' (d ++ d') :=
  ⟨by rw [k.l, h.l, List.append_assoc], fun x hx => by rw [List.append_assoc]; exact h.ok _ (k.ok _ hx), by
    have h1 := h.len
    have h2 := k.len
    rw [wrAll_app, List.length_append]; omega⟩
theorem run_add : ∀ (f : Nat) (s s' : St), s.r.length ≤ f → run f s = .ok s' → s'.r = [] ∧ ∃ d, Add s s' d
  | 0, s, s', h, e => by
    have hr : s.r = [] := List.length_eq_zero_iff.1 (by omega)
    rw [run] at e
    cases e
    obtain ⟨r, o, n, l⟩ := s
    exact ⟨hr, [], add_nil (Nat.le_refl _)⟩
  | f + 1, s, s', h, e => by
    rw [run] at e
    by_cases q : s.r = []
    · rw [if_pos q] at e
      cases e
      obtain ⟨r, o, n, l⟩ := s
      exact ⟨q, [], add_nil (Nat.le_refl _)⟩
    · rw [if_neg q] at e
      cases e2 : step s with
      | er x => rw [e2] at e; cases e
      | ok s1 =>
        rw [e2] at e
        have hl := step_len q e2
        obtain ⟨d, hd⟩ := step_add q e2
        obtain ⟨h1, d', hd'⟩ := run_add f s1 s' (by omega) e
        exact ⟨h1, _, hd.trans hd'⟩
theorem shut_er {nm r : B} {s : St} {e : Int} (h : shut nm r s = .er e) : e = 2 := by
  unfold shut at h
  split at h
  · cases h
  · cases h; rfl
theorem step_er {s : St} {e : Int} (h : step s = .er e) : e = 2 ∨ e = 5 := by
  have pass : ∀ (p : B) (k : Nat), passS p k s = .er e → e = 2 := fun p k h => by
    unfold passS at h
    split at h <;> cases h
    rfl
  unfold step at h
  split at h
  · unfold plainS at h
    simp only at h
    split at h
    · cases h; exact Or.inl rfl
    · cases h
  split at h
  · exact Or.inl (pass _ _ h)
  split at h
  · exact Or.inl (pass _ _ h)
  split at h
  · unfold dataS at h
    split at h
    · cases h; exact Or.inl rfl
    · split at h
      · cases h; exact Or.inl rfl
      · cases h
  split at h
  · exact Or.inl (pass _ _ h)
  split at h
  · unfold endS at h
    simp only at h
    split at h
    · split at h
      · exact Or.inl (shut_er h)
      · cases h; exact Or.inl rfl
    · cases h; exact Or.inl rfl
  · unfold openS at h
    simp only at h
    split at h
    · split at h
      · cases h; exact Or.inl rfl
      · split at h
        · cases h; exact Or.inl rfl
        · split at h
          · cases h; exact Or.inr rfl
          · split at h
            · cases h
            · exact Or.inl (shut_er h)
            · cases h; exact Or.inl rfl
    · cases h; exact Or.inl rfl
theorem run_er : ∀ (f : Nat) (s : St) (e : Int), run f s = .er e → e = 2 ∨ e = 5
  | 0, s, e, h => by cases h
  | f + 1, s, e, h => by
    rw [run] at h
    split at h
    · cases h
    · split at h
      · rename_i x hx
        cases h
        exact step_er hx
      · exact run_er f _ e h
theorem tok_ok {b : B} {m : List Tk} (h : tok b = (m, 0)) : okL [] 0 m ∧ (wrAll m).length ≤ 6 * b.length ∧ b.length ≤ 100000 := by
  unfold tok at h
  split at h
  · cases h
  · rename_i hlen
    split at h
    · rename_i e he
      have h0 : e = 0 := by cases h; rfl
      rcases run_er _ _ _ he with rfl | rfl
      · cases h0
      · cases h0
    · rename_i s hs
      split at h
      · cases h
      · rename_i hon
        cases h
        obtain ⟨h1, d, hd⟩ := run_add b.length ⟨b, [], 0, []⟩ s (Nat.le_refl _) hs
        have hl := hd.l
        simp only [List.nil_append] at hl
        rw [hl]
        have h2 := hd.len
        refine ⟨?_, by simp only at h2; omega, by omega⟩
        have := hd.ok [] ⟨by
          by_cases q : s.o = []
          · exact q
          · exact absurd (Or.inl q) hon, by
          by_cases q : s.n = 0
          · exact absurd (Or.inr q) hon
          · omega⟩
        simpa using this
end Go.Proofs.YtflhmgnhjnaiiaaGreatDoor.Xm
/- Plain mathematics of documents: what is written is read as the pieces it was written of. -/
set_option linter.unusedVariables false
namespace Go.Proofs.YtflhmgnhjnaiiaaGreatDoor.Xm
open En
theorem allN_cons {s : B} (h : isN s = true) : ∃ c r, s = c :: r ∧ sgn true c = true ∧ r.all (sgn false) = true := by
  unfold isN at h
  simp only [Bool.and_eq_true, decide_eq_true_eq] at h
  cases s with
  | nil => simp at h
  | cons c r =>
    have h2 := h.2
    unfold allN at h2
    simp only [Bool.and_eq_true] at h2
    exact ⟨c, r, rfl, h2.1, h2.2⟩
theorem sgn_facts (c : UInt8) (h : sgn true c = true) : c ≠ 33 ∧ c ≠ 63 ∧ c ≠ 47 ∧ c ≠ 62 ∧ spB c = false := by
  have key : ∀ n : Fin 256, sgn true (UInt8.ofNat n) = true → UInt8.ofNat n ≠ 33 ∧ UInt8.ofNat n ≠ 63 ∧ UInt8.ofNat n ≠ 47 ∧ UInt8.ofNat n ≠ 62 ∧ spB (UInt8.ofNat n) = false := by decide +kernel
  have := key ⟨c.toNat, c.toNat_lt⟩
  simp only [UInt8.ofNat_toNat] at this
  exact this h
theorem nmS_app {nm : B} (h : isN nm = true) (y : B) (hy : ∀ c r, y = c :: r → sgn false c = false) : nmS (nm ++ y) = (nm, y) := by
  obtain ⟨c, r, rfl, h1, h2⟩ := allN_cons h
  rw [List.cons_append, nmS, if_pos h1]
  have e1 : (r ++ y).takeWhile (sgn false) = r := by
    rw [List.takeWhile_append_of_pos (fun a ha => List.all_eq_true.1 h2 a ha)]
    cases y with
    | nil => simp
    | cons d y => rw [List.takeWhile_cons, if_neg (by rw [hy d y rfl]; decide)]; simp
  have e2 : (r ++ y).dropWhile (sgn false) = y := by
    rw [List.dropWhile_append_of_pos (fun a ha => List.all_eq_true.1 h2 a ha)]
    cases y with
    | nil => rfl
    | cons d y => rw [List.dropWhile_cons, if_neg (by rw [hy d y rfl]; decide)]
  rw [e1, e2]
theorem upt_one (q : UInt8) : ∀ (x u : B), q ∉ x → upt [q] (x ++ q :: u) = some (x, u)
  | [], u, _ => by
    rw [List.nil_append, upt, if_pos (by simp [List.isPrefixOf])]; rfl
  | c :: x, u, h => by
    simp only [List.mem_cons, not_or] at h
    rw [List.cons_append, upt, if_neg (by simp [List.isPrefixOf]; exact h.1), upt_one q x u h.2]; rfl
theorem gone_enc2 (x : B) : gone (enc x) = (x, true) := gone_enc x
theorem no60 (x : B) : (60 : UInt8) ∉ enc x := fun h => (enc_none x _ h).1 rfl
theorem no34 (x : B) : (34 : UInt8) ∉ enc x := fun h => (enc_none x _ h).2.2 rfl
theorem atr_wr {a : Atr} (h : isN a.1 = true) (R : B) : atr (a.1 ++ 61 :: 34 :: enc a.2 ++ 34 :: R) = some (a, R) := by
  have e := nmS_app h (61 :: 34 :: enc a.2 ++ 34 :: R) (fun c r hc => by cases hc; decide)
  rw [← List.append_assoc] at e
  unfold atr
  rw [e, if_pos h]
  simp only [List.cons_append, true_or, if_true]
  rw [upt_one 34 _ _ (no34 a.2)]
  simp only
  rw [if_neg (no60 a.2), gone_enc2]
  simp
theorem skip_sp (c : UInt8) (r : B) (h : spB c = false) : skip (32 :: c :: r) = c :: r := by
  unfold skip
  rw [List.dropWhile_cons, if_pos (by decide), List.dropWhile_cons, if_neg (by rw [h]; decide)]
theorem atrs_wr : ∀ (as : List Atr) (acc : List Atr) (f : Nat) (R : B), (as.flatMap wrA).length < f → (∀ a ∈ as, isN a.1 = true) → ((acc ++ as).map (·.1)).Nodup → atrs f (as.flatMap wrA ++ 62 :: R) acc = some (acc ++ as, 62 :: R)
  | [], acc, f, R, hf, _, _ => by
    cases f with
    | zero => simp at hf
    | succ f =>
      have : skip (62 :: R) = 62 :: R := by unfold skip; rw [List.dropWhile_cons, if_neg (by decide)]
      rw [List.flatMap_nil, List.nil_append, atrs, this, if_pos (show tagEnd (62 :: R) = true from rfl), List.append_nil]
  | a :: as, acc, f, R, hf, hn, hd => by
    cases f with
    | zero => simp at hf
    | succ f =>
      have ha := hn a (by simp)
      obtain ⟨c, r, hc, h1, h2⟩ := allN_cons ha
      obtain ⟨g1, g2, g3, g4, g5⟩ := sgn_facts c h1
      have e : (a :: as).flatMap wrA ++ 62 :: R = 32 :: (a.1 ++ 61 :: 34 :: enc a.2 ++ 34 :: (as.flatMap wrA ++ 62 :: R)) := by
        rw [List.flatMap_cons]; unfold wrA; simp
      have hlen : (as.flatMap wrA).length < f := by
        rw [List.flatMap_cons, List.length_append] at hf
        have : 1 ≤ (wrA a).length := by unfold wrA; simp
        omega
      rw [e]
      have hs : skip (32 :: (a.1 ++ 61 :: 34 :: enc a.2 ++ 34 :: (as.flatMap wrA ++ 62 :: R))) = a.1 ++ 61 :: 34 :: enc a.2 ++ 34 :: (as.flatMap wrA ++ 62 :: R) := by
        rw [hc]; exact skip_sp c _ g5
      rw [atrs, hs, if_neg (by rw [hc]; unfold tagEnd; split <;> simp_all)]
      rw [if_neg (by
        rintro (q | q)
        · simp at q
        · rw [hc] at q; simp at q), atr_wr ha]
      simp only
      have hnc : (acc.map (·.1)).contains a.1 = false := by
        rw [Bool.eq_false_iff]
        intro q
        rw [List.contains_iff_mem] at q
        rw [List.map_append, List.nodup_append] at hd
        exact hd.2.2 _ q a.1 (by simp) rfl
      rw [hnc, if_neg (by decide), atrs_wr as (acc ++ [a]) f R hlen (fun x hx => hn x (List.mem_cons_of_mem _ hx)) (by simpa using hd)]
      simp
/-- a tag's beginning by a name is none of the others -/
theorem step_open {nm x : B} (h : isN nm = true) (o : List B) (n : Nat) (l : List Tk) : step ⟨60 :: nm ++ x, o, n, l⟩ = openS ⟨60 :: nm ++ x, o, n, l⟩ := by
  obtain ⟨c, r, rfl, h1, h2⟩ := allN_cons h
  obtain ⟨g1, g2, g3, g4, g5⟩ := sgn_facts c h1
  have b1 : ((33 : UInt8) == c) = false := by simp; exact fun e => g1 e.symm
  have b2 : ((63 : UInt8) == c) = false := by simp; exact fun e => g2 e.symm
  have b3 : ((47 : UInt8) == c) = false := by simp; exact fun e => g3 e.symm
  unfold step
  simp [pCom, pAsk, pData, pOdd, pEnd, List.isPrefixOf, b1, b2, b3]
theorem step_wO {nm : B} {as : List Atr} (hn : isN nm = true) (hg : goodA as) (R : B) (o : List B) (n : Nat) (l : List Tk) (h0 : o = [] → n = 0) (hd : o.length < 20) :
    step ⟨wrK (tO nm as) ++ R, o, n, l⟩ = .ok ⟨R, o ++ [nm], if o = [] then n + 1 else n, l ++ [tO nm as]⟩ := by
  have e : wrK (tO nm as) ++ R = 60 :: nm ++ (as.flatMap wrA ++ 62 :: R) := by rw [wrK_O]; simp
  rw [e, step_open hn]
  unfold openS
  have e2 : (60 :: nm ++ (as.flatMap wrA ++ 62 :: R)).drop 1 = nm ++ (as.flatMap wrA ++ 62 :: R) := rfl
  have e3 : nmS (nm ++ (as.flatMap wrA ++ 62 :: R)) = (nm, as.flatMap wrA ++ 62 :: R) := nmS_app hn _ (fun c r hc => by
    cases as with
    | nil => simp at hc; rw [← hc.1]; decide
    | cons a as =>
      rw [List.flatMap_cons] at hc
      unfold wrA at hc
      simp only [List.cons_append, List.cons.injEq] at hc
      rw [← hc.1]; decide)
  have e4 := atrs_wr as [] ((as.flatMap wrA ++ 62 :: R).length + 1) R (by simp; omega) hg.1 (by simpa using hg.2)
  simp only [e2, e3, if_pos hn, e4]
  rw [if_neg (by rintro ⟨q1, q2⟩; have := h0 q1; omega), if_neg (by omega)]
  simp
theorem step_wC {nm : B} (hn : isN nm = true) (R : B) (o : List B) (n : Nat) (l : List Tk) (hl : o.getLast? = some nm) :
    step ⟨wrK (tC nm) ++ R, o, n, l⟩ = .ok ⟨R, o.dropLast, n, l ++ [tC nm]⟩ := by
  have e : wrK (tC nm) ++ R = 60 :: 47 :: (nm ++ 62 :: R) := by rw [wrK_C]; simp
  rw [e]
  have e3 : nmS (nm ++ 62 :: R) = (nm, 62 :: R) := nmS_app hn _ (fun c r hc => by cases hc; decide)
  have e5 : skip (62 :: R) = 62 :: R := by unfold skip; rw [List.dropWhile_cons, if_neg (by decide)]
  have e6 : step ⟨60 :: 47 :: (nm ++ 62 :: R), o, n, l⟩ = endS ⟨60 :: 47 :: (nm ++ 62 :: R), o, n, l⟩ := by
    unfold step
    simp [pCom, pAsk, pData, pOdd, pEnd, List.isPrefixOf]
  rw [e6]
  unfold endS
  simp only [List.drop_succ_cons, List.drop_zero, e3, if_pos hn, e5]
  unfold shut
  rw [if_pos hl]
theorem step_wX {x : B} (hx : x ≠ []) (R : B) (o : List B) (n : Nat) (l : List Tk) (ho : o ≠ []) :
    step ⟨wrK (tX x) ++ 60 :: R, o, n, l⟩ = .ok ⟨60 :: R, o, n, l ++ [tX x]⟩ := by
  rw [wrK_X]
  have hp : ∀ a ∈ enc x, ((a : UInt8) != 60) = true := fun a ha => by
    rw [bne_iff_ne]
    exact fun e => no60 x (e ▸ ha)
  have e1 : (enc x ++ 60 :: R).takeWhile (· != 60) = enc x := by
    rw [List.takeWhile_append_of_pos hp, List.takeWhile_cons, if_neg (by decide)]; simp
  have e2 : (enc x ++ 60 :: R).dropWhile (· != 60) = 60 :: R := by
    rw [List.dropWhile_append_of_pos hp, List.dropWhile_cons, if_neg (by decide)]
  have hne : enc x ≠ [] := fun e => hx (by have := gone_enc2 x; rw [e] at this; cases this; rfl)
  unfold step
  rw [if_pos (by
    cases he : enc x with
    | nil => exact absurd he hne
    | cons c r =>
      simp only [List.cons_append, List.head?_cons, ne_eq, Option.some.injEq]
      exact fun e => no60 x (by rw [he, e]; simp))]
  unfold plainS
  simp only [e1, e2, gone_enc2]
  rw [if_neg (by simp [ho])]
  unfold put
  rw [if_neg (by simp [hx, ho])]
def nAdj : List Tk → Bool
  | a :: b :: l => !(a.1 == 2 && b.1 == 2) && nAdj (b :: l)
  | _ => true
theorem run_go {s s' : St} (hr : s.r ≠ []) (h : step s = .ok s') : run s.r.length s = run s'.r.length s' := by
  have hl := step_len hr h
  cases hn : s.r.length with
  | zero => exact absurd (List.length_eq_zero_iff.1 hn) hr
  | succ f =>
    rw [run, if_neg hr, h]
    exact run_more _ _ _ (Nat.le_refl _) (by omega)
theorem wr_head {o : List B} {n : Nat} {l : List Tk} (h : okL o n l) (ho : o ≠ []) (ht : ∀ t ∈ l.head?, (t.1 == 2) = false) : ∃ R, wrAll l = 60 :: R := by
  cases l with
  | nil => exact absurd h.1 ho
  | cons t l =>
    rcases h with ⟨nm, as, rfl, _⟩ | ⟨nm, rfl, _⟩ | ⟨x, rfl, _⟩
    · exact ⟨nm ++ as.flatMap wrA ++ [62] ++ wrAll l, rfl⟩
    · exact ⟨47 :: nm ++ [62] ++ wrAll l, rfl⟩
    · exact absurd (ht (tX x) (by simp)) (show ¬ ((2 : Int) == 2) = false by decide)
theorem wrAll_cons (t : Tk) (l : List Tk) : wrAll (t :: l) = wrK t ++ wrAll l := rfl
theorem back_run : ∀ (l : List Tk) (o : List B) (n : Nat) (acc : List Tk), okL o n l → (∀ nm ∈ o, isN nm = true) → nAdj l = true → ∃ n', 1 ≤ n' ∧ run (wrAll l).length ⟨wrAll l, o, n, acc⟩ = .ok ⟨[], [], n', acc ++ l⟩
  | [], o, n, acc, h, _, _ => by
    obtain ⟨rfl, h2⟩ := h
    exact ⟨n, h2, by simp [wrAll, run]⟩
  | t :: l, o, n, acc, h, hall, hadj => by
    have hadj2 : nAdj l = true := by
      cases l with
      | nil => rfl
      | cons b l => unfold nAdj at hadj; simp only [Bool.and_eq_true] at hadj; exact hadj.2
    have fin : ∀ (s1 : St), s1.r = wrAll l → s1.l = acc ++ [t] → okL s1.o s1.n l → (∀ nm ∈ s1.o, isN nm = true) → wrK t ≠ [] → step ⟨wrAll (t :: l), o, n, acc⟩ = .ok s1 → ∃ n', 1 ≤ n' ∧ run (wrAll (t :: l)).length ⟨wrAll (t :: l), o, n, acc⟩ = .ok ⟨[], [], n', acc ++ t :: l⟩ := fun s1 h1 h2 h3 h4 h5 h6 => by
      obtain ⟨n', q1, q2⟩ := back_run l s1.o s1.n s1.l h3 h4 hadj2
      refine ⟨n', q1, ?_⟩
      have hne : wrAll (t :: l) ≠ [] := by rw [wrAll_cons]; simp [h5]
      have e := run_go (s := ⟨wrAll (t :: l), o, n, acc⟩) hne h6
      simp only at e
      obtain ⟨r1, o1, n1, l1⟩ := s1
      simp only at h1 h2 q2 e
      subst h1 h2
      rw [e, q2]
      simp
    rcases h with ⟨nm, as, rfl, g1, g2, g3, g4, g5⟩ | ⟨nm, rfl, g1, g2⟩ | ⟨x, rfl, g1, g2, g3⟩
    · exact fin ⟨wrAll l, o ++ [nm], if o = [] then n + 1 else n, acc ++ [tO nm as]⟩ rfl rfl g5 (fun a ha => by
        rcases List.mem_append.1 ha with ha | ha
        · exact hall a ha
        · simp only [List.mem_singleton] at ha; subst ha; exact g1) (by rw [wrK_O]; simp) (by rw [wrAll_cons]; exact step_wO g1 g2 _ o n acc g3 g4)
    · exact fin ⟨wrAll l, o.dropLast, n, acc ++ [tC nm]⟩ rfl rfl g2 (fun a ha => hall a (List.dropLast_subset o ha)) (by rw [wrK_C]; simp) (by
        rw [wrAll_cons]
        exact step_wC (hall nm (List.mem_of_getLast? g1)) _ o n acc g1)
    · obtain ⟨R, hR⟩ := wr_head g3 g2 (by
        intro b hb
        cases l with
        | nil => simp at hb
        | cons b' l =>
          simp only [List.head?_cons, Option.mem_def, Option.some.injEq] at hb
          subst hb
          unfold nAdj at hadj
          simp only [Bool.and_eq_true, Bool.not_eq_true', Bool.and_eq_false_iff] at hadj
          rcases hadj.1 with q | q
          · exact absurd q (show ¬ ((2 : Int) == 2) = false by decide)
          · exact q)
      refine fin ⟨wrAll l, o, n, acc ++ [tX x]⟩ rfl rfl g3 hall (by
        rw [wrK_X]
        exact fun e => g1 (by have := gone_enc2 x; rw [e] at this; cases this; rfl)) ?_
      rw [wrAll_cons, hR]
      exact step_wX g1 R o n acc g2
theorem tok_wr {b : B} {m : List Tk} (h : tok b = (m, 0)) (hb : b.length ≤ 16000) (ha : nAdj m = true) : tok (wrAll m) = (m, 0) := by
  obtain ⟨h1, h2, h3⟩ := tok_ok h
  obtain ⟨n', q1, q2⟩ := back_run m [] 0 [] h1 (fun nm hn => by cases hn) ha
  unfold tok
  rw [if_neg (by omega), q2]
  simp only [List.nil_append]
  rw [if_neg (by rintro (q | q); exact q rfl; omega)]
end Go.Proofs.YtflhmgnhjnaiiaaGreatDoor.Xm
/- Plain mathematics of documents: what stands ahead of the first element, and behind the last one; elements within one another. -/
set_option linter.unusedVariables false
namespace Go.Proofs.YtflhmgnhjnaiiaaGreatDoor.Xm
open En
theorem pfx_app {p r : B} (x : B) (h : p.length ≤ r.length) : p.isPrefixOf (r ++ x) = p.isPrefixOf r := by
  rw [Bool.eq_iff_iff, List.isPrefixOf_iff_prefix, List.isPrefixOf_iff_prefix]
  constructor
  · rintro ⟨t, ht⟩
    refine ⟨t.take (r.length - p.length), ?_⟩
    have := congrArg (List.take r.length) ht
    rw [List.take_append_of_le_length (l₁ := r) (Nat.le_refl _), List.take_length, List.take_append] at this
    rw [List.take_of_length_le h] at this
    exact this
  · rintro ⟨t, ht⟩
    exact ⟨t ++ x, by rw [← List.append_assoc, ht]⟩
/-- a text that begins so only behind more is a beginning of it -/
theorem pfx_short {p r x : B} (h : p.isPrefixOf (r ++ x) = true) (h2 : p.isPrefixOf r = false) : ∃ t, p = r ++ t := by
  rw [List.isPrefixOf_iff_prefix] at h
  by_cases q : p.length ≤ r.length
  · rw [← pfx_app x q, Bool.eq_false_iff] at h2
    exact absurd (List.isPrefixOf_iff_prefix.2 h) h2
  · obtain ⟨t, ht⟩ := h
    refine ⟨p.drop r.length, ?_⟩
    have := congrArg (List.take r.length) ht
    rw [List.take_append_of_le_length (by omega), List.take_append_of_le_length (Nat.le_refl _), List.take_length] at this
    have e := List.take_append_drop r.length p
    rw [this] at e
    exact e.symm
theorem upt_app {p : B} (hp : p ≠ []) (x : B) : ∀ {r a u : B}, upt p r = some (a, u) → upt p (r ++ x) = some (a, u ++ x)
  | [], a, u, h => by
    rw [upt, if_neg hp] at h; cases h
  | c :: r, a, u, h => by
    have hl := (upt_len hp h).2
    have hlen : p.length ≤ (c :: r).length := by rw [hl]; simp; omega
    rw [List.cons_append, upt, show c :: (r ++ x) = (c :: r) ++ x from rfl, pfx_app x hlen]
    rw [upt] at h
    by_cases q : p.isPrefixOf (c :: r) = true
    · rw [if_pos q] at h ⊢
      simp only [Option.some.injEq, Prod.mk.injEq] at h ⊢
      obtain ⟨h1, h2⟩ := h
      exact ⟨h1, by rw [← h2, List.drop_append_of_le_length hlen]⟩
    · rw [if_neg q] at h ⊢
      simp only [Option.map_eq_some_iff] at h ⊢
      obtain ⟨⟨a', u'⟩, h1, h2⟩ := h
      simp only [Prod.mk.injEq] at h2
      obtain ⟨rfl, rfl⟩ := h2
      exact ⟨_, upt_app hp x h1, rfl⟩
theorem while_app {p : UInt8 → Bool} (x : B) : ∀ {r : B}, r.dropWhile p ≠ [] → (r ++ x).takeWhile p = r.takeWhile p ∧ (r ++ x).dropWhile p = r.dropWhile p ++ x
  | [], h => absurd rfl h
  | c :: r, h => by
    rw [List.cons_append, List.takeWhile_cons, List.dropWhile_cons, List.takeWhile_cons, List.dropWhile_cons]
    rw [List.dropWhile_cons] at h
    cases hc : p c with
    | true =>
      rw [hc, if_pos rfl] at h
      have := while_app (p := p) x h
      simp [this.1, this.2]
    | false => simp
theorem skip_app {r : B} (x : B) (h : skip r ≠ []) : skip (r ++ x) = skip r ++ x := (while_app x h).2
theorem nmS_app2 {r : B} (x : B) (h : (nmS r).2 ≠ []) : nmS (r ++ x) = ((nmS r).1, (nmS r).2 ++ x) := by
  cases r with
  | nil => exact absurd rfl h
  | cons c r =>
    rw [List.cons_append]
    rw [nmS] at h ⊢
    rw [nmS]
    split
    · rename_i hc
      rw [if_pos hc] at h
      obtain ⟨h1, h2⟩ := while_app (p := sgn false) x h
      rw [h1, h2]
    · rfl
theorem atr_app {r u : B} {a : Atr} (x : B) (h : atr r = some (a, u)) : atr (r ++ x) = some (a, u ++ x) := by
  have hne : (nmS r).2 ≠ [] := fun e => by
    unfold atr at h
    rw [e] at h
    split at h <;> cases h
  unfold atr at h ⊢
  rw [nmS_app2 x hne]
  simp only
  split at h
  · rename_i hn
    rw [if_pos hn]
    split at h
    · rename_i q t e
      rw [e]
      simp only [List.cons_append]
      split at h
      · rename_i hq
        rw [if_pos hq]
        split at h
        · rename_i raw v e2
          rw [upt_app (by simp) x e2]
          simp only
          split at h
          · cases h
          · rename_i h60
            rw [if_neg h60]
            split at h
            · rename_i hg
              rw [if_pos hg]
              simp only [Option.some.injEq, Prod.mk.injEq] at h ⊢
              obtain ⟨rfl, rfl⟩ := h
              exact ⟨rfl, rfl⟩
            · cases h
        · cases h
      · cases h
    · cases h
  · cases h
theorem tagEnd_app {r : B} (x : B) (h : tagEnd r = true) : tagEnd (r ++ x) = true := by
  unfold tagEnd at h
  split at h
  · rfl
  · rfl
  · cases h
theorem tagEnd_ne {r : B} (h : tagEnd r = true) : r ≠ [] := fun e => by rw [e] at h; cases h
theorem atr_head {r u : B} {a : Atr} (h : atr r = some (a, u)) : ∃ c t, r = c :: t ∧ sgn true c = true := by
  have hn := (atr_good h).1
  unfold atr at h
  cases r with
  | nil => simp [nmS, isN] at h
  | cons c r =>
    refine ⟨c, r, rfl, ?_⟩
    cases hc : sgn true c with
    | true => rfl
    | false =>
      have e : nmS (c :: r) = ([], c :: r) := by rw [nmS, if_neg (by rw [hc]; decide)]
      rw [e] at h
      rw [if_neg (show ¬ isN [] = true by decide)] at h
      cases h
theorem tagEnd_not {c : UInt8} {t : B} (h : sgn true c = true) : tagEnd (c :: t) = false := by
  obtain ⟨_, _, g3, g4, _⟩ := sgn_facts c h
  unfold tagEnd
  split
  · rename_i e; cases e; exact absurd rfl g4
  · rename_i e; cases e; exact absurd rfl g3
  · rfl
theorem atrs_app (x : B) : ∀ (f g : Nat) (r : B) (acc as : List Atr) (u : B), atrs f r acc = some (as, u) → f ≤ g → atrs g (r ++ x) acc = some (as, u ++ x)
  | 0, _, _, _, _, _, h, _ => by cases h
  | f + 1, 0, _, _, _, _, _, hg => by omega
  | f + 1, g + 1, r, acc, as, u, h, hg => by
    rw [atrs] at h ⊢
    by_cases q : tagEnd (skip r) = true
    · rw [if_pos q] at h
      rw [skip_app x (tagEnd_ne q), if_pos (tagEnd_app x q)]
      simp only [Option.some.injEq, Prod.mk.injEq] at h ⊢
      obtain ⟨rfl, rfl⟩ := h
      exact ⟨rfl, rfl⟩
    · rw [if_neg q] at h
      split at h
      · cases h
      · rename_i hns
        simp only [not_or] at hns
        split at h
        · cases h
        · rename_i a v e
          obtain ⟨c, t, hc, hs⟩ := atr_head e
          rw [skip_app x hns.2, if_neg (by rw [hc, List.cons_append, tagEnd_not hs]; decide), if_neg (by
            rintro (q | q)
            · rw [List.length_append, List.length_append] at q
              exact hns.1 (by omega)
            · rw [hc] at q; simp at q), atr_app x e]
          simp only
          split at h
          · cases h
          · rename_i hnc
            rw [if_neg hnc]
            exact atrs_app x f g _ _ _ _ h (by omega)
theorem shut_app {nm r : B} {s s' : St} (x : B) (h : shut nm r s = .ok s') : shut nm (r ++ x) s = .ok ⟨s'.r ++ x, s'.o, s'.n, s'.l⟩ := by
  obtain ⟨h1, rfl⟩ := shut_ok h
  unfold shut
  rw [if_pos h1]
theorem passS_app {p r : B} {k : Nat} {o : List B} {n : Nat} {l : List Tk} {s' : St} (x : B) (hp : p ≠ []) (hk : k ≤ r.length) (h : passS p k ⟨r, o, n, l⟩ = .ok s') : passS p k ⟨r ++ x, o, n, l⟩ = .ok ⟨s'.r ++ x, s'.o, s'.n, s'.l⟩ := by
  unfold passS at h ⊢
  simp only at h ⊢
  split at h
  · cases h
  · rename_i a u e
    cases h
    rw [List.drop_append_of_le_length hk, upt_app hp x e]
theorem pfx_len {p r : B} (h : p.isPrefixOf r = true) : p.length ≤ r.length := (List.isPrefixOf_iff_prefix.1 h).length_le
theorem upt_none {q : UInt8} : ∀ {r : B}, q ∉ r → upt [q] r = none
  | [], _ => by rw [upt, if_neg (by simp)]
  | c :: r, h => by
    simp only [List.mem_cons, not_or] at h
    rw [upt, if_neg (by simp [List.isPrefixOf]; exact h.1), upt_none h.2]; rfl
theorem no62 {p r t : B} (h : (62 : UInt8) ∉ p) (e : p = r ++ t) : passS [62] 2 ⟨r, [], 0, []⟩ = .er 2 ∧ ∀ o n l, passS [62] 2 ⟨r, o, n, l⟩ = .er 2 := by
  have hr : (62 : UInt8) ∉ r.drop 2 := fun q => h (by rw [e]; exact List.mem_append_left _ (List.mem_of_mem_drop q))
  have : ∀ o n l, passS [62] 2 ⟨r, o, n, l⟩ = .er 2 := fun o n l => by unfold passS; simp only [upt_none hr]
  exact ⟨this _ _ _, this⟩
theorem step_app {r : B} {o : List B} {n : Nat} {l : List Tk} {s' : St} (x : B) (h : step ⟨r, o, n, l⟩ = .ok s') (hr : r ≠ []) (hp : r.head? ≠ some 60 → r.dropWhile (· != 60) ≠ []) :
    step ⟨r ++ x, o, n, l⟩ = .ok ⟨s'.r ++ x, s'.o, s'.n, s'.l⟩ := by
  have hh : (r ++ x).head? = r.head? := by cases r with | nil => exact absurd rfl hr | cons c r => rfl
  unfold step at h ⊢
  simp only at h ⊢
  rw [hh]
  by_cases q0 : r.head? ≠ some 60
  · rw [if_pos q0] at h ⊢
    unfold plainS at h ⊢
    obtain ⟨e1, e2⟩ := while_app x (hp q0)
    simp only at h ⊢
    rw [e1, e2]
    split at h
    · cases h
    · rename_i hc
      rw [if_neg hc]
      cases h
      rfl
  rw [if_neg q0] at h ⊢
  -- which of the beginnings
  by_cases q1 : pCom.isPrefixOf r = true
  · rw [if_pos q1] at h
    rw [if_pos (by rw [pfx_app x (pfx_len q1)]; exact q1)]
    exact passS_app x (by simp) (by have := pfx_len q1; simpa [pCom] using this) h
  rw [if_neg q1] at h
  by_cases q2 : pAsk.isPrefixOf r = true
  · rw [if_pos q2] at h
    have hlen := pfx_len q2
    obtain ⟨t, rfl⟩ := List.isPrefixOf_iff_prefix.1 q2
    rw [if_neg (by simp [pCom, pAsk, List.isPrefixOf]), if_pos (by simp [pAsk, List.isPrefixOf])]
    exact passS_app x (by simp) (by simp [pAsk]) h
  rw [if_neg q2] at h
  by_cases q3 : pData.isPrefixOf r = true
  · rw [if_pos q3] at h
    have hlen := pfx_len q3
    rw [if_neg (by
      obtain ⟨t, rfl⟩ := List.isPrefixOf_iff_prefix.1 q3
      simp [pCom, pData, List.isPrefixOf]), if_neg (by
      obtain ⟨t, rfl⟩ := List.isPrefixOf_iff_prefix.1 q3
      simp [pAsk, pData, List.isPrefixOf]), if_pos (by rw [pfx_app x hlen]; exact q3)]
    unfold dataS at h ⊢
    simp only at h ⊢
    split at h
    · cases h
    · rename_i a u e
      rw [List.drop_append_of_le_length (by simpa [pData] using hlen), upt_app (by simp) x e]
      simp only
      split at h
      · cases h
      · rename_i ho
        rw [if_neg ho]
        cases h
        rfl
  rw [if_neg q3] at h
  by_cases q4 : pOdd.isPrefixOf r = true
  · rw [if_pos q4] at h
    have hlen := pfx_len q4
    have n1 : pCom.isPrefixOf (r ++ x) = false := by
      rw [Bool.eq_false_iff]
      intro q
      obtain ⟨t, ht⟩ := pfx_short q (Bool.eq_false_iff.2 q1)
      rw [(no62 (by decide) ht).2] at h; cases h
    have n2 : pAsk.isPrefixOf (r ++ x) = false := by
      obtain ⟨t, rfl⟩ := List.isPrefixOf_iff_prefix.1 q4
      simp [pAsk, pOdd, List.isPrefixOf]
    have n3 : pData.isPrefixOf (r ++ x) = false := by
      rw [Bool.eq_false_iff]
      intro q
      obtain ⟨t, ht⟩ := pfx_short q (Bool.eq_false_iff.2 q3)
      rw [(no62 (by decide) ht).2] at h; cases h
    rw [if_neg (by rw [n1]; decide), if_neg (by rw [n2]; decide), if_neg (by rw [n3]; decide), if_pos (by rw [pfx_app x hlen]; exact q4)]
    exact passS_app x (by simp) (by simpa [pOdd] using hlen) h
  rw [if_neg q4] at h
  have hc : ∃ c t, r = 60 :: c :: t ∧ c ≠ 33 ∧ c ≠ 63 := by
    cases r with
    | nil => exact absurd rfl hr
    | cons a r =>
      simp only [List.head?_cons, ne_eq, Option.some.injEq, Decidable.not_not] at q0
      subst q0
      cases r with
      | nil =>
        exfalso
        rw [if_neg (by decide)] at h
        unfold openS at h
        simp [nmS, isN] at h
      | cons c t =>
        refine ⟨c, t, rfl, fun e => q4 (by subst e; simp [pOdd, List.isPrefixOf]), fun e => q2 (by subst e; simp [pAsk, List.isPrefixOf])⟩
  obtain ⟨c, t, rfl, g1, g2⟩ := hc
  have b1 : ((33 : UInt8) == c) = false := by simp; exact fun e => g1 e.symm
  have b2 : ((63 : UInt8) == c) = false := by simp; exact fun e => g2 e.symm
  have m1 : pCom.isPrefixOf (60 :: c :: t ++ x) = false := by simp [pCom, List.isPrefixOf, b1]
  have m2 : pAsk.isPrefixOf (60 :: c :: t ++ x) = false := by simp [pAsk, List.isPrefixOf, b2]
  have m3 : pData.isPrefixOf (60 :: c :: t ++ x) = false := by simp [pData, List.isPrefixOf, b1]
  have m4 : pOdd.isPrefixOf (60 :: c :: t ++ x) = false := by simp [pOdd, List.isPrefixOf, b1]
  rw [m1, m2, m3, m4, if_neg (by decide), if_neg (by decide), if_neg (by decide), if_neg (by decide), pfx_app x (by simp [pEnd])]
  by_cases q5 : pEnd.isPrefixOf (60 :: c :: t) = true
  · rw [if_pos q5] at h ⊢
    unfold endS at h ⊢
    simp only [List.cons_append, List.drop_succ_cons, List.drop_zero] at h ⊢
    have hne : (nmS t).2 ≠ [] := fun e => by
      rw [e] at h
      simp only [show skip [] = [] from rfl] at h
      split at h <;> cases h
    rw [nmS_app2 x hne]
    simp only
    split at h
    · rename_i hn
      rw [if_pos hn]
      split at h
      · rename_i u e
        rw [skip_app x (by rw [e]; simp), e]
        simp only [List.cons_append]
        obtain ⟨k1, k2⟩ := shut_ok h
        subst k2
        unfold shut
        rw [if_pos k1]
      · cases h
    · cases h
  · rw [if_neg q5] at h ⊢
    unfold openS at h ⊢
    simp only [List.cons_append, List.drop_succ_cons, List.drop_zero] at h ⊢
    have hne : (nmS (c :: t)).2 ≠ [] := fun e => by
      rw [e] at h
      split at h
      · have : atrs (([] : B).length + 1) [] [] = none := rfl
        rw [this] at h; cases h
      · cases h
    rw [show c :: (t ++ x) = (c :: t) ++ x from rfl, nmS_app2 x hne]
    simp only
    split at h
    · rename_i hn
      rw [if_pos hn]
      split at h
      · cases h
      · rename_i as u e
        rw [atrs_app x _ (((nmS (c :: t)).2 ++ x).length + 1) _ _ _ _ e (by rw [List.length_append]; omega)]
        simp only
        split at h
        · cases h
        · rename_i h1
          rw [if_neg h1]
          split at h
          · cases h
          · rename_i h2
            rw [if_neg h2]
            split at h
            · cases h; rfl
            · obtain ⟨k1, k2⟩ := shut_ok h
              subst k2
              simp only [List.cons_append]
              unfold shut
              rw [if_pos k1]
            · cases h
    · cases h
end Go.Proofs.YtflhmgnhjnaiiaaGreatDoor.Xm
/- Plain mathematics of documents: what stands around the elements; elements within one another. -/
set_option linter.unusedVariables false
namespace Go.Proofs.YtflhmgnhjnaiiaaGreatDoor.Xm
open En
def go (s : St) : Re := run s.r.length s
theorem go_nil (o : List B) (n : Nat) (l : List Tk) : go ⟨[], o, n, l⟩ = .ok ⟨[], o, n, l⟩ := rfl
theorem go_step {s s' : St} (hr : s.r ≠ []) (h : step s = .ok s') : go s = go s' := run_go hr h
theorem go_ok {s s' : St} (hr : s.r ≠ []) (h : go s = .ok s') : ∃ s1, step s = .ok s1 ∧ go s1 = .ok s' ∧ s1.r.length < s.r.length := by
  unfold go at h
  cases hn : s.r.length with
  | zero => exact absurd (List.length_eq_zero_iff.1 hn) hr
  | succ f =>
    have h0 := h
    rw [hn, run, if_neg hr] at h
    cases e : step s with
    | er x => rw [e] at h; cases h
    | ok s1 =>
      have := go_step hr e
      refine ⟨s1, rfl, by rw [← this]; exact h0, by have := step_len hr e; omega⟩
theorem tok_go (b : B) (hb : b.length ≤ 100000) {l : List Tk} : tok b = (l, 0) ↔ ∃ n, 1 ≤ n ∧ go ⟨b, [], 0, []⟩ = .ok ⟨[], [], n, l⟩ := by
  constructor
  · intro h
    have h1 := (tok_ok h).1
    unfold tok at h
    rw [if_neg (by omega)] at h
    split at h
    · rename_i e he
      have h0 : e = 0 := by cases h; rfl
      rcases run_er _ _ _ he with rfl | rfl <;> cases h0
    · rename_i s hs
      split at h
      · cases h
      · rename_i hon
        cases h
        obtain ⟨hr, _⟩ := run_add b.length ⟨b, [], 0, []⟩ s (Nat.le_refl _) hs
        obtain ⟨r, o, n, l⟩ := s
        simp only [not_or, Decidable.not_not] at hon hr
        obtain ⟨ho, hn⟩ := hon
        subst ho hr
        exact ⟨n, by omega, hs⟩
  · rintro ⟨n, hn, h⟩
    unfold go at h
    unfold tok
    rw [if_neg (by omega)]
    simp only at h
    rw [h]
    simp only
    rw [if_neg (by rintro (q | q); exact q rfl; omega)]
def bl (a : B) : Prop := a.all spB = true
theorem bl_no {a : B} (h : bl a) : (∀ c ∈ a, ((c : UInt8) != 60) = true) ∧ (38 : UInt8) ∉ a := by
  have key : ∀ n : Fin 256, spB (UInt8.ofNat n) = true → ((UInt8.ofNat n) != 60) = true ∧ UInt8.ofNat n ≠ 38 := by decide +kernel
  have : ∀ c ∈ a, (c != 60) = true ∧ c ≠ 38 := fun c hc => by
    have k := key ⟨c.toNat, c.toNat_lt⟩
    simp only [UInt8.ofNat_toNat] at k
    exact k (List.all_eq_true.1 h c hc)
  exact ⟨fun c hc => (this c hc).1, fun hm => (this 38 hm).2 rfl⟩
/-- outside of elements a text's plain beginning is blank, and nothing -/
theorem plain_out {r : B} {n : Nat} {l : List Tk} (hb : bl (r.takeWhile (· != 60))) (hr : r.head? ≠ some 60) : step ⟨r, [], n, l⟩ = .ok ⟨r.dropWhile (· != 60), [], n, l⟩ := by
  have hg : gone (r.takeWhile (· != 60)) = (r.takeWhile (· != 60), true) := gone_plain (bl_no hb).2
  unfold step
  rw [if_pos hr]
  unfold plainS
  simp only [hg]
  rw [if_neg (by
    rintro (q | ⟨_, q⟩)
    · cases q
    · rw [hb] at q; cases q)]
  unfold put
  simp
theorem blank_go {a b : B} {n : Nat} {l : List Tk} (ha : bl a) (hb : ∃ s, go ⟨b, [], n, l⟩ = .ok s) : go ⟨a ++ b, [], n, l⟩ = go ⟨b, [], n, l⟩ := by
  cases a with
  | nil => rfl
  | cons c a =>
    have hc := (bl_no ha).1
    have hh : ((c :: a) ++ b).head? ≠ some 60 := by
      have := hc c (by simp)
      rw [bne_iff_ne] at this
      simp only [List.cons_append, List.head?_cons, ne_eq, Option.some.injEq]; exact this
    have e1 : ((c :: a) ++ b).takeWhile (· != 60) = (c :: a) ++ b.takeWhile (· != 60) := List.takeWhile_append_of_pos hc
    have e2 : ((c :: a) ++ b).dropWhile (· != 60) = b.dropWhile (· != 60) := List.dropWhile_append_of_pos hc
    by_cases q : b.takeWhile (· != 60) = []
    · have e3 : b.dropWhile (· != 60) = b := by
        have := List.takeWhile_append_dropWhile (p := fun x : UInt8 => x != 60) (l := b)
        rw [q, List.nil_append] at this; exact this
      have hs := plain_out (r := (c :: a) ++ b) (n := n) (l := l) (by rw [e1, q, List.append_nil]; exact ha) hh
      rw [e2, e3] at hs
      exact go_step (by simp) hs
    · have hbn : b ≠ [] := fun e => q (by rw [e]; rfl)
      have hbh : b.head? ≠ some 60 := by
        cases b with
        | nil => simp
        | cons d b =>
          simp only [List.head?_cons, ne_eq, Option.some.injEq]
          intro e
          apply q
          rw [e, List.takeWhile_cons, if_neg (by decide)]
      obtain ⟨s, hs⟩ := hb
      obtain ⟨s1, h1, h2, _⟩ := go_ok (s := ⟨b, [], n, l⟩) hbn hs
      have hbb : bl (b.takeWhile (· != 60)) := by
        unfold step at h1
        rw [if_pos hbh] at h1
        unfold plainS at h1
        simp only at h1
        split at h1
        · cases h1
        · rename_i hq
          simp only [not_or, not_and, true_implies, Bool.not_eq_false] at hq
          exact hq.2
      have hsb := plain_out (r := b) (n := n) (l := l) hbb hbh
      have hsa := plain_out (r := (c :: a) ++ b) (n := n) (l := l) (by
        rw [e1]
        show ((c :: a) ++ b.takeWhile (· != 60)).all spB = true
        rw [List.all_append, Bool.and_eq_true]
        exact ⟨ha, hbb⟩) hh
      rw [e2] at hsa
      rw [go_step (by simp) hsa, go_step hbn hsb]
/-- what may stand behind the last element -/
def Tail (x : B) : Prop := ∀ (a : B) (n : Nat) (l : List Tk), bl a → go ⟨a ++ x, [], n, l⟩ = .ok ⟨[], [], n, l⟩
theorem Tail.of {x : B} (h : ∀ n l, go ⟨x, [], n, l⟩ = .ok ⟨[], [], n, l⟩) : Tail x := fun a n l ha => by
  rw [blank_go ha ⟨_, h n l⟩]; exact h n l
theorem go_app {x : B} (hx : Tail x) : ∀ (k : Nat) (r : B) (o : List B) (n : Nat) (l : List Tk) (n' : Nat) (l' : List Tk), r.length ≤ k → go ⟨r, o, n, l⟩ = .ok ⟨[], [], n', l'⟩ → go ⟨r ++ x, o, n, l⟩ = .ok ⟨[], [], n', l'⟩ := by
  intro k
  induction k with
  | zero =>
    intro r o n l n' l' hk h
    obtain rfl : r = [] := List.length_eq_zero_iff.1 (by omega)
    rw [go_nil] at h
    cases h
    exact hx [] n l rfl
  | succ k ih =>
    intro r o n l n' l' hk h
    by_cases hr : r = []
    · subst hr
      rw [go_nil] at h
      cases h
      exact hx [] n l rfl
    obtain ⟨s1, h1, h2, h3⟩ := go_ok (s := ⟨r, o, n, l⟩) hr h
    obtain ⟨r1, o1, n1, l1⟩ := s1
    by_cases hp : r.head? ≠ some 60 → r.dropWhile (· != 60) ≠ []
    · have hs := step_app x h1 hr hp
      have := go_step (s := ⟨r ++ x, o, n, l⟩) (by simp [hr]) hs
      rw [this]
      exact ih r1 o1 n1 l1 n' l' (by simp only at h3; omega) h2
    · have hh : r.head? ≠ some 60 := fun e => hp (fun q => absurd e q)
      have hd : r.dropWhile (· != 60) = [] := by
        by_cases q : r.dropWhile (· != 60) = []
        · exact q
        · exact absurd (fun _ => q) hp
      have ht : r.takeWhile (· != 60) = r := by
        have := List.takeWhile_append_dropWhile (p := fun x : UInt8 => x != 60) (l := r)
        rw [hd, List.append_nil] at this; exact this
      unfold step at h1
      rw [if_pos hh] at h1
      unfold plainS at h1
      simp only [hd, ht] at h1
      split at h1
      · cases h1
      · rename_i hq
        simp only [Re.ok.injEq, St.mk.injEq] at h1
        obtain ⟨rfl, rfl, rfl, rfl⟩ := h1
        rw [go_nil] at h2
        simp only [Re.ok.injEq, St.mk.injEq, true_and] at h2
        obtain ⟨rfl, rfl, hl⟩ := h2
        simp only [not_or, not_and, true_implies, Bool.not_eq_false] at hq
        have hput : put (gone r).1 [] l = l := by unfold put; simp
        rw [hput] at hl
        subst hl
        exact hx r n l hq.2
def a1 : B := [10, 32]
def a2 : B := [60, 33, 45, 45, 32, 60, 97, 62, 32, 45, 45, 62]
def a3 : B := [60, 63, 120, 109, 108, 32, 118, 101, 114, 115, 105, 111, 110, 61, 39, 49, 46, 48, 39, 63, 62, 10, 60, 33, 68, 79, 67, 84, 89, 80, 69, 32, 97, 62]
theorem a2_step (b : B) (n : Nat) (l : List Tk) : step ⟨a2 ++ b, [], n, l⟩ = .ok ⟨b, [], n, l⟩ := rfl
theorem a3_step (b : B) (n : Nat) (l : List Tk) : step ⟨a3 ++ b, [], n, l⟩ = .ok ⟨10 :: a3.drop 22 ++ b, [], n, l⟩ := rfl
theorem a3_step2 (b : B) (n : Nat) (l : List Tk) : step ⟨a3.drop 22 ++ b, [], n, l⟩ = .ok ⟨b, [], n, l⟩ := rfl
theorem a2_go (b : B) (n : Nat) (l : List Tk) : go ⟨a2 ++ b, [], n, l⟩ = go ⟨b, [], n, l⟩ := go_step (by simp [a2]) (a2_step b n l)
theorem a3_go (b : B) (n : Nat) (l : List Tk) (hb : ∃ s, go ⟨b, [], n, l⟩ = .ok s) : go ⟨a3 ++ b, [], n, l⟩ = go ⟨b, [], n, l⟩ := by
  have h2 : go ⟨a3.drop 22 ++ b, [], n, l⟩ = go ⟨b, [], n, l⟩ := go_step (by simp [a3]) (a3_step2 b n l)
  rw [go_step (by simp [a3]) (a3_step b n l)]
  have := blank_go (a := [10]) (b := a3.drop 22 ++ b) (n := n) (l := l) rfl (by rw [h2]; exact hb)
  rw [← h2]
  exact this
/-- what stands around changes nothing -/
def Around (x : B) : Prop := x = [] ∨ x = a1 ∨ x = a2 ∨ x = a3
theorem around_ahead {x b : B} {n : Nat} {l : List Tk} (hx : Around x) (hb : ∃ s, go ⟨b, [], n, l⟩ = .ok s) : go ⟨x ++ b, [], n, l⟩ = go ⟨b, [], n, l⟩ := by
  rcases hx with rfl | rfl | rfl | rfl
  · rfl
  · exact blank_go rfl hb
  · exact a2_go b n l
  · exact a3_go b n l hb
theorem around_tail {x : B} (hx : Around x) : Tail x := Tail.of fun n l => by
  have := around_ahead (b := []) (n := n) (l := l) hx ⟨_, go_nil _ _ _⟩
  rw [List.append_nil] at this
  rw [this]; rfl
theorem tok_around {x y b : B} {l : List Tk} (hx : Around x) (hy : Around y) (hb : b.length ≤ 1000) (h : tok b = (l, 0)) : tok (x ++ b ++ y) = (l, 0) := by
  obtain ⟨n, hn, hg⟩ := (tok_go b (by omega)).1 h
  have h1 := go_app (around_tail hy) _ b [] 0 [] n l (Nat.le_refl _) hg
  have h2 := around_ahead (b := b ++ y) hx ⟨_, h1⟩
  have hlen : ∀ z, Around z → z.length ≤ 40 := fun z hz => by rcases hz with rfl | rfl | rfl | rfl <;> decide
  have l1 := hlen x hx
  have l2 := hlen y hy
  refine (tok_go _ (by simp; omega)).2 ⟨n, hn, ?_⟩
  rw [List.append_assoc, h2, h1]
/-! elements within one another -/
def deepB (n : Nat) (e : Bool) : B := (List.replicate (n - 1) ([60, 97, 62] : B)).flatten ++ (if e = true then [60, 97, 47, 62] else [60, 97, 62, 60, 47, 97, 62]) ++ (List.replicate (n - 1) ([60, 47, 97, 62] : B)).flatten
theorem deep_all : ∀ (k : Fin 60) (e : Bool), if 20 < k.val + 1 then tok (deepB (k.val + 1) e) = ([], 5) else (tok (deepB (k.val + 1) e)).2 = 0 ∧ (tok (deepB (k.val + 1) e)).1.length = 2 * (k.val + 1) := by decide +kernel
/-- the chapter's example -/
def exB : B := [60, 97, 32, 98, 61, 34, 49, 34, 62, 120, 38, 97, 109, 112, 59, 60, 99, 47, 62, 60, 47, 97, 62]
def exL : List Tk := [tO [97] [([98], [49])], tX [120, 38], tO [99] [], tC [99], tC [97]]
theorem ex_tok : tok exB = (exL, 0) := by decide +kernel
/-! nesting, piece by piece -/
/-- elements open behind a piece -/
def nx (o : List B) (t : Tk) : List B := if t.1 = 0 then o ++ [t.2.1] else if t.1 = 1 then o.dropLast else o
theorem okL_step {o : List B} {n : Nat} {t : Tk} {l : List Tk} (h : okL o n (t :: l)) (hi : o ≠ [] → 1 ≤ n) : (1 ≤ n → o ≠ []) ∧
    ((t.1 = 0 ∧ o.length < 20) ∨ (t.1 = 1 ∧ o ≠ [] ∧ o.getLast? = some t.2.1) ∨ (t.1 = 2 ∧ t.2.2.1 ≠ [] ∧ o ≠ [])) ∧ ∃ n', 1 ≤ n' ∧ okL (nx o t) n' l := by
  rcases h with ⟨nm, as, rfl, g1, g2, g3, g4, g5⟩ | ⟨nm, rfl, g1, g2⟩ | ⟨x, rfl, g1, g2, g3⟩
  · refine ⟨fun hn ho => by have := g3 ho; omega, Or.inl ⟨rfl, g4⟩, _, ?_, g5⟩
    split
    · omega
    · rename_i q
      exact hi q
  · have ho : o ≠ [] := fun e => by rw [e] at g1; cases g1
    exact ⟨fun _ => ho, Or.inr (Or.inl ⟨rfl, ho, g1⟩), n, hi ho, g2⟩
  · exact ⟨fun _ => g2, Or.inr (Or.inr ⟨rfl, g1, g2⟩), n, hi g2, g3⟩
theorem okL_two {l : List Tk} (h : okL [] 0 l) : 2 ≤ l.length ∧ ∃ nm as r, l = tO nm as :: r := by
  cases l with
  | nil => exact absurd h.2 (by omega)
  | cons t l =>
    rcases h with ⟨nm, as, rfl, g1, g2, g3, g4, g5⟩ | ⟨nm, rfl, g1, g2⟩ | ⟨x, rfl, g1, g2, g3⟩
    · refine ⟨?_, nm, as, l, rfl⟩
      cases l with
      | nil => have := g5.1; simp at this
      | cons b l => simp
    · cases g1
    · exact absurd rfl g2
theorem nAdj_at : ∀ {l : List Tk}, (∀ (i : Nat) (a b : Tk), l[i]? = some a → l[i + 1]? = some b → ¬ (a.1 = 2 ∧ b.1 = 2)) → nAdj l = true
  | [], _ => rfl
  | [a], _ => rfl
  | a :: b :: l, h => by
    unfold nAdj
    rw [Bool.and_eq_true]
    refine ⟨?_, nAdj_at (fun i x y hx hy => h (i + 1) x y (by simpa using hx) (by simpa using hy))⟩
    have := h 0 a b (by simp) (by simp)
    by_cases q1 : a.1 = 2
    · by_cases q2 : b.1 = 2
      · exact absurd ⟨q1, q2⟩ this
      · simp [q2]
    · simp [q1]
theorem tok_er {b : B} {l : List Tk} {e : Int} (h : tok b = (l, e)) (he : e ≠ 0) : l = [] := by
  unfold tok at h
  split at h
  · cases h; rfl
  · split at h
    · cases h; rfl
    · split at h
      · cases h; rfl
      · cases h; exact absurd rfl he
end Go.Proofs.YtflhmgnhjnaiiaaGreatDoor.Xm
/- How long pieces that were read can be. -/
set_option linter.unusedVariables false
namespace Go.Proofs.YtflhmgnhjnaiiaaGreatDoor.Xm
open En
/-- a list of pieces, and all of it, no longer than so much -/
def Fw (K : Nat) (l : List Tk) : Prop := l.length ≤ K ∧ ∀ t ∈ l, t.2.1.length ≤ K ∧ t.2.2.1.length ≤ K ∧ t.2.2.2.length ≤ K ∧ ∀ a ∈ t.2.2.2, a.1.length ≤ K ∧ a.2.length ≤ K
theorem Fw.nil (K : Nat) : Fw K [] := ⟨Nat.zero_le _, fun t h => by cases h⟩
theorem Fw.mono {K K' : Nat} {l : List Tk} (h : Fw K l) (hk : K ≤ K') : Fw K' l :=
  ⟨Nat.le_trans h.1 hk, fun t ht => ⟨Nat.le_trans (h.2 t ht).1 hk, Nat.le_trans (h.2 t ht).2.1 hk, Nat.le_trans (h.2 t ht).2.2.1 hk, fun a ha => ⟨Nat.le_trans ((h.2 t ht).2.2.2 a ha).1 hk, Nat.le_trans ((h.2 t ht).2.2.2 a ha).2 hk⟩⟩⟩
theorem Fw.at {K : Nat} {l : List Tk} (h : Fw K l) (hK : K ≤ 1000000) : l.length ≤ 1000000 ∧ ∀ t ∈ l, t.2.2.2.length ≤ 1000000 := ⟨by have := h.1; omega, fun t ht => by have := (h.2 t ht).2.2.1; omega⟩
theorem mem_flat {α : Type} (f : α → B) : ∀ {l : List α} {t : α}, t ∈ l → (f t).length ≤ (l.flatMap f).length
  | a :: l, t, h => by
    rw [List.flatMap_cons, List.length_append]
    rcases List.mem_cons.1 h with rfl | h
    · omega
    · have := mem_flat f h; omega
theorem len_flat {α : Type} (f : α → B) : ∀ {l : List α}, (∀ t ∈ l, 1 ≤ (f t).length) → l.length ≤ (l.flatMap f).length
  | [], _ => Nat.le_refl _
  | a :: l, h => by
    rw [List.flatMap_cons, List.length_append, List.length_cons]
    have h1 := h a (by simp)
    have h2 := len_flat f (l := l) (fun t ht => h t (by simp [ht]))
    omega
theorem enc_ge (x : B) : x.length ≤ (enc x).length := by
  have h := len_flat encC (l := x) (fun t _ => by unfold encC; split <;> (try split) <;> (try split) <;> (try split) <;> simp)
  exact h
theorem wrA_ge (a : Atr) : a.1.length ≤ (wrA a).length ∧ a.2.length ≤ (wrA a).length ∧ 1 ≤ (wrA a).length := by
  have := enc_ge a.2
  simp [wrA]
  omega
/-- the pieces that a document has -/
def Kd (t : Tk) : Prop := (∃ nm as, t = tO nm as) ∨ (∃ nm, t = tC nm) ∨ (∃ x, t = tX x ∧ x ≠ [])
theorem okL_kd : ∀ {l : List Tk} {o : List B} {n : Nat}, okL o n l → ∀ t ∈ l, Kd t
  | [], _, _, _, t, ht => by cases ht
  | u :: l, o, n, h, t, ht => by
    rcases h with ⟨nm, as, rfl, _, _, _, _, g⟩ | ⟨nm, rfl, _, g⟩ | ⟨x, rfl, gx, _, g⟩
    all_goals rcases List.mem_cons.1 ht with rfl | ht
    · exact Or.inl ⟨nm, as, rfl⟩
    · exact okL_kd g t ht
    · exact Or.inr (Or.inl ⟨nm, rfl⟩)
    · exact okL_kd g t ht
    · exact Or.inr (Or.inr ⟨x, rfl, gx⟩)
    · exact okL_kd g t ht
theorem wrK_ge {t : Tk} (h : Kd t) : 1 ≤ (wrK t).length ∧ t.2.1.length ≤ (wrK t).length ∧ t.2.2.1.length ≤ (wrK t).length ∧ t.2.2.2.length ≤ (wrK t).length ∧ ∀ a ∈ t.2.2.2, a.1.length ≤ (wrK t).length ∧ a.2.length ≤ (wrK t).length := by
  rcases h with ⟨nm, as, rfl⟩ | ⟨nm, rfl⟩ | ⟨x, rfl, hx⟩
  · have h1 := len_flat wrA (l := as) (fun a _ => (wrA_ge a).2.2)
    have h0 : (wrK (tO nm as)).length = nm.length + (as.flatMap wrA).length + 2 := by
      simp only [wrK, tO, if_true, List.length_append, List.length_cons, List.length_nil]; omega
    have e1 : (tO nm as).2.1 = nm := rfl
    have e2 : (tO nm as).2.2.1 = [] := rfl
    have e3 : (tO nm as).2.2.2 = as := rfl
    refine ⟨by omega, by rw [h0, e1]; omega, by rw [e2]; simp, by rw [h0, e3]; omega, fun a ha => ?_⟩
    have h2 := mem_flat wrA (show a ∈ as from ha)
    have h3 := wrA_ge a
    exact ⟨by omega, by omega⟩
  · have h0 : (wrK (tC nm)).length = nm.length + 3 := by simp [wrK, tC]
    have e1 : (tC nm).2.1 = nm := rfl
    refine ⟨by omega, by rw [h0, e1]; omega, by simp [tC], by simp [tC], fun a ha => by cases ha⟩
  · have h1 := enc_ge x
    have h2 := List.length_pos_iff.2 hx
    have h0 : (wrK (tX x)).length = (enc x).length := by simp [wrK, tX]
    refine ⟨by omega, by simp [tX], by rw [h0]; simpa [tX] using h1, by simp [tX], fun a ha => by cases ha⟩
theorem okL_fw {l : List Tk} {o : List B} {n : Nat} (h : okL o n l) : Fw (wrAll l).length l := by
  refine ⟨len_flat wrK (fun t ht => (wrK_ge (okL_kd h t ht)).1), fun t ht => ?_⟩
  have h1 := mem_flat wrK ht
  have h2 := wrK_ge (okL_kd h t ht)
  refine ⟨Nat.le_trans h2.2.1 h1, Nat.le_trans h2.2.2.1 h1, Nat.le_trans h2.2.2.2.1 h1, fun a ha => ⟨Nat.le_trans (h2.2.2.2.2 a ha).1 h1, Nat.le_trans (h2.2.2.2.2 a ha).2 h1⟩⟩
theorem tok_fw (b : B) : Fw (6 * b.length) (tok b).1 := by
  by_cases h : (tok b).2 = 0
  · obtain ⟨h1, h2, _⟩ := tok_ok (b := b) (m := (tok b).1) (by rw [← h])
    exact (okL_fw h1).mono h2
  · rw [tok_er (b := b) (l := (tok b).1) (e := (tok b).2) rfl h]
    exact Fw.nil _
end Go.Proofs.YtflhmgnhjnaiiaaGreatDoor.Xm
