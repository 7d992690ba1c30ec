/- Plain mathematics of texts with marks: what is a mark, what it hides, what stands between breaks; lines that are filled with words. -/
import Derived.Test.YtpkbcomdkamglaaDoorEnRn
import Derived.Lib.Case
set_option linter.unusedSimpArgs false
set_option linter.unusedVariables false
namespace Go.Proofs.YtpkbcomdkamglaaDoor.Pl
open En
abbrev B := List UInt8
/-! marks -/
def ltB (c : UInt8) : Bool := decide (97 ≤ c.toNat ∧ c.toNat ≤ 122) || decide (65 ≤ c.toNat ∧ c.toNat ≤ 90)
def dgB (c : UInt8) : Bool := decide (48 ≤ c.toNat ∧ c.toNat ≤ 57)
def wdB (c : UInt8) : Bool := ltB c || dgB c
/-- does what stands behind a < open a mark -/
def opn : B → Bool
  | [] => false
  | c :: _ => ltB c || c == 47 || c == 33
/-- what stands behind the next > -/
def aft : B → B
  | [] => []
  | c :: r => if c = 62 then r else aft r
def clo : B → Bool
  | [] => false
  | c :: _ => c == 47
def lo (l : B) : B := l.map Lib.lowerB
def cor (r : B) : B := if clo r = true then r.drop 1 else r
/-- a mark's name, of what stands behind its < -/
def nam (r : B) : B := lo ((cor r).takeWhile wdB)
def scN : B := [115, 99, 114, 105, 112, 116]
def stN : B := [115, 116, 121, 108, 101]
def hidN (n : B) : Bool := n == scN || n == stN
/-- does a text begin with the end of what a name hides -/
def hit (n l : B) : Bool := l.take 2 == [60, 47] && lo ((l.drop 2).take n.length) == n
def skp (n : B) : B → B
  | [] => []
  | c :: r => if hit n (c :: r) = true then c :: r else skp n r
def brkL : List B := [[112], [98, 114], [100, 105, 118], [108, 105], [116, 114], [117, 108], [111, 108], [116, 97, 98, 108, 101], [104, 49], [104, 50], [104, 51], [104, 52], [104, 53], [104, 54]]
def brk (n : B) : Bool := brkL.contains n
def hidM (r : B) : Bool := !clo r && hidN (nam r)
/-- what follows a mark, of what stands behind its < -/
def rst (r : B) : B := if hidM r = true then skp (nam r) (aft r) else aft r
def isM (c : UInt8) (r : B) : Bool := c == 60 && opn r
def pcF : Nat → B → B → List B
  | 0, cur, _ => [cur]
  | _ + 1, cur, [] => [cur]
  | n + 1, cur, c :: r => if isM c r = true then (if brk (nam r) = true then cur :: pcF n [] (rst r) else pcF n cur (rst r)) else pcF n (cur ++ [c]) r
theorem aft_len : ∀ l : B, (aft l).length ≤ l.length
  | [] => Nat.le_refl _
  | c :: r => by
    have := aft_len r
    rw [aft]; split <;> simp <;> omega
theorem skp_len (n : B) : ∀ l : B, (skp n l).length ≤ l.length
  | [] => Nat.le_refl _
  | c :: r => by
    have := skp_len n r
    rw [skp]; split <;> simp; omega
theorem rst_len (r : B) : (rst r).length ≤ r.length := by
  have h1 := aft_len r
  have h2 := skp_len (nam r) (aft r)
  unfold rst; split <;> omega
theorem pcF_more : ∀ (n m : Nat) (cur l : B), l.length ≤ n → n ≤ m → pcF m cur l = pcF n cur l := by
  intro n
  induction n with
  | zero =>
    intro m cur l h _
    obtain rfl : l = [] := by simpa using h
    cases m <;> rfl
  | succ n ih =>
    intro m cur l h hm
    obtain ⟨m, rfl⟩ : ∃ k, m = k + 1 := ⟨m - 1, by omega⟩
    cases l with
    | nil => rfl
    | cons c r =>
      have hr : r.length ≤ n := by simpa using h
      have hs := rst_len r
      rw [pcF, pcF, ih m [] (rst r) (by omega) (by omega), ih m cur (rst r) (by omega) (by omega), ih m (cur ++ [c]) r hr (by omega)]
/-- what stands between breaks, a piece begun -/
def pc (cur l : B) : List B := pcF l.length cur l
def pcs (l : B) : List B := pc [] l
theorem pc_nil (cur : B) : pc cur [] = [cur] := rfl
theorem pc_cons (cur : B) (c : UInt8) (r : B) : pc cur (c :: r) = if isM c r = true then (if brk (nam r) = true then cur :: pc [] (rst r) else pc cur (rst r)) else pc (cur ++ [c]) r := by
  have hs := rst_len r
  unfold pc
  rw [List.length_cons, pcF, pcF_more (rst r).length r.length [] (rst r) (Nat.le_refl _) hs, pcF_more (rst r).length r.length cur (rst r) (Nat.le_refl _) hs]
theorem pc_mark (cur r : B) (h : opn r = true) : pc cur (60 :: r) = if brk (nam r) = true then cur :: pc [] (rst r) else pc cur (rst r) := by
  rw [pc_cons, if_pos (by unfold isM; rw [h]; rfl)]
theorem pc_other (cur : B) {c : UInt8} {r : B} (h : isM c r = false) : pc cur (c :: r) = pc (cur ++ [c]) r := by
  rw [pc_cons, if_neg (by rw [h]; decide)]
theorem pc_ne (cur l : B) : pc cur l ≠ [] := by
  have key : ∀ (n : Nat) (cur l : B), pcF n cur l ≠ [] := by
    intro n
    induction n with
    | zero => intro cur l; simp [pcF]
    | succ n ih =>
      intro cur l
      cases l with
      | nil => simp [pcF]
      | cons c r =>
        rw [pcF]
        split
        · split
          · simp
          · exact ih _ _
        · exact ih _ _
  exact key _ _ _
theorem pc_bd : ∀ (n : Nat) (cur l : B), l.length ≤ n → (pc cur l).length ≤ l.length + 1 ∧ ∀ p ∈ pc cur l, p.length ≤ cur.length + l.length := by
  intro n
  induction n with
  | zero =>
    intro cur l h
    obtain rfl : l = [] := by simpa using h
    rw [pc_nil]; simp
  | succ n ih =>
    intro cur l h
    cases l with
    | nil => rw [pc_nil]; simp
    | cons c r =>
      have hr : r.length ≤ n := by simpa using h
      have hs := rst_len r
      rw [pc_cons, List.length_cons]
      split
      · split
        · obtain ⟨h1, h2⟩ := ih [] (rst r) (by omega)
          refine ⟨by rw [List.length_cons]; omega, fun p hp => ?_⟩
          rcases List.mem_cons.1 hp with rfl | hp
          · omega
          · have := h2 p hp; simp at this; omega
        · obtain ⟨h1, h2⟩ := ih cur (rst r) (by omega)
          exact ⟨by omega, fun p hp => by have := h2 p hp; omega⟩
      · obtain ⟨h1, h2⟩ := ih (cur ++ [c]) r hr
        exact ⟨by omega, fun p hp => by have := h2 p hp; simp at this; omega⟩
theorem pcs_len (l : B) : (pcs l).length ≤ l.length + 1 := (pc_bd _ [] l (Nat.le_refl _)).1
theorem pcs_mem (l p : B) (h : p ∈ pcs l) : p.length ≤ l.length := by have := (pc_bd _ [] l (Nat.le_refl _)).2 p h; simpa using this
/-- a text's first mark: what stands ahead of it, and behind its < -/
def fm : B → Option (B × B)
  | [] => none
  | c :: r => if isM c r = true then some ([], r) else (fm r).map fun p => (c :: p.1, p.2)
theorem pc_fm : ∀ (l cur : B), pc cur l = match fm l with
    | none => [cur ++ l]
    | some (a, r) => if brk (nam r) = true then (cur ++ a) :: pc [] (rst r) else pc (cur ++ a) (rst r)
  | [], cur => by rw [pc_nil, fm]; simp
  | c :: r, cur => by
    rw [pc_cons, fm]
    by_cases h : isM c r = true
    · rw [if_pos h, if_pos h]; simp
    · rw [if_neg h, if_neg h, pc_fm r (cur ++ [c])]
      cases fm r with
      | none => simp
      | some p => simp
theorem fm_len : ∀ (l a r : B), fm l = some (a, r) → a.length + r.length + 1 = l.length ∧ opn r = true ∧ l = a ++ 60 :: r
  | [], a, r, h => by simp [fm] at h
  | c :: x, a, r, h => by
    rw [fm] at h
    by_cases q : isM c x = true
    · rw [if_pos q] at h
      cases h
      unfold isM at q
      simp only [Bool.and_eq_true, beq_iff_eq] at q
      exact ⟨by simp, q.2, by rw [q.1]; rfl⟩
    · rw [if_neg q] at h
      cases hf : fm x with
      | none => rw [hf] at h; cases h
      | some p =>
        obtain ⟨p1, p2⟩ := p
        rw [hf] at h
        cases h
        obtain ⟨h1, h2, h3⟩ := fm_len x p1 p2 hf
        exact ⟨by simp; omega, h2, by rw [h3]; rfl⟩
theorem fm_pl {l : B} (h : (60 : UInt8) ∉ l) : fm l = none := by
  induction l with
  | nil => rfl
  | cons c r ih =>
    have hc : isM c r = false := by
      unfold isM
      rw [beq_eq_false_iff_ne.2 (fun e => h (by simp [e])), Bool.false_and]
    rw [fm, if_neg (by rw [hc]; decide), ih (fun e => h (by simp [e]))]; rfl
/-! what is told -/
def addL (acc t : B) : B := if t = [] then acc else if acc = [] then t else acc ++ [10] ++ t
def lin (p : B) : B := tr (gone p).1
/-- the plain text -/
def ofP (l : B) : B := ((pcs l).map lin).foldl addL []
def nel (l : List B) : List B := l.filter fun t => !t.isEmpty
theorem fold_nel : ∀ (ts : List B) (acc : B), ts.foldl addL acc = (nel ts).foldl addL acc
  | [], acc => rfl
  | t :: ts, acc => by
    by_cases h : t = []
    · subst h
      rw [List.foldl_cons, show addL acc [] = acc from rfl, fold_nel ts acc]; rfl
    · have : nel (t :: ts) = t :: nel ts := by
        unfold nel; rw [List.filter_cons_of_pos (by cases t <;> simp_all)]
      rw [this, List.foldl_cons, List.foldl_cons, fold_nel ts]
theorem nel_ne {ts : List B} : ∀ t ∈ nel ts, t ≠ [] := fun t h e => by
  unfold nel at h
  rw [List.mem_filter] at h
  rw [e] at h
  exact absurd h.2 (by decide)
theorem join_fold : ∀ (ts : List B) (acc : B), acc ≠ [] → (∀ t ∈ ts, t ≠ []) → ts.foldl addL acc = acc ++ (ts.map fun t => 10 :: t).flatten
  | [], acc, h, _ => by simp
  | t :: ts, acc, h, hn => by
    have ht : t ≠ [] := hn t (by simp)
    rw [List.foldl_cons, join_fold ts _ (by unfold addL; rw [if_neg ht, if_neg h]; simp [h]) (fun x hx => hn x (by simp [hx]))]
    unfold addL
    rw [if_neg ht, if_neg h]
    simp
theorem inter_cons (x : B) : ∀ ts : List B, ([10] : B).intercalate (x :: ts) = x ++ (ts.map fun t => 10 :: t).flatten
  | [] => by simp [List.intercalate]
  | t :: ts => by
    have h := inter_cons t ts
    rw [List.map_cons, List.flatten_cons]
    have e : ([10] : B).intercalate (x :: t :: ts) = x ++ ([10] ++ ([10] : B).intercalate (t :: ts)) := by simp [List.intercalate, List.intersperse]
    rw [e, h]; simp
theorem join_of {ts : List B} (hn : ∀ t ∈ ts, t ≠ []) : ([10] : B).intercalate ts = ts.foldl addL [] := by
  cases ts with
  | nil => rfl
  | cons x ts =>
    have hx : x ≠ [] := hn x (by simp)
    rw [inter_cons, List.foldl_cons, show addL [] x = x by unfold addL; rw [if_neg hx, if_pos rfl], join_fold ts x hx (fun t ht => hn t (by simp [ht]))]
theorem ofP_nel (l : B) : ofP l = (nel ((pcs l).map lin)).foldl addL [] := fold_nel _ _
theorem lin_len (p : B) : (lin p).length ≤ 2 * p.length := by
  have h1 := trF_len (gone p).1 false false
  have h2 := gone_len _ p (Nat.le_refl _)
  unfold lin tr; omega
theorem addL_len (acc t : B) : (addL acc t).length ≤ acc.length + 1 + t.length := by
  unfold addL; split
  · omega
  · split
    · omega
    · simp; omega
theorem fold_len (M : Nat) : ∀ (ts : List B) (acc : B), (∀ t ∈ ts, t.length ≤ M) → (ts.foldl addL acc).length ≤ acc.length + ts.length * (M + 1)
  | [], acc, _ => by simp
  | t :: ts, acc, h => by
    have h1 := addL_len acc t
    have h2 := h t (by simp)
    have h3 := fold_len M ts (addL acc t) (fun x hx => h x (by simp [hx]))
    rw [List.foldl_cons, List.length_cons, Nat.add_mul]
    omega
/-! lines of words -/
/-- a line begun, filled with words -/
def fil (most : Int) : List B → B → List B
  | [], made => [made]
  | w :: ws, made => if made ≠ [] ∧ most < (made.length : Int) + 1 + w.length then made :: fil most ws w else fil most ws (if made = [] then w else made ++ [32] ++ w)
end Go.Proofs.YtpkbcomdkamglaaDoor.Pl
