/- Several texts of this seat, one behind the other. -/
import Derived.Test.YtflhmgnhjnaiiaaGreatDoorXmX
set_option linter.unusedSimpArgs false
/- Plain mathematics of feeds: elements right within an element, values, entries. -/
set_option linter.unusedVariables false
namespace Go.Proofs.YtflhmgnhjnaiiaaGreatDoor.Fd
open En Xm
/-- are pieces of one another, where these elements are open? -/
def nst : List B → List Tk → Bool
  | o, [] => o.isEmpty
  | o, t :: r => if o = [] then false else if t.1 = 0 then nst (o ++ [t.2.1]) r else if t.1 = 1 then (if o.getLast? = some t.2.1 then nst o.dropLast r else false) else nst o r
def nested : List Tk → Bool
  | [] => false
  | t :: r => if t.1 = 0 then nst [t.2.1] r else false
theorem okL_nst : ∀ (l : List Tk) (o : List B) (n : Nat), okL o n l → 1 ≤ n → nst o l = true
  | [], o, n, h, hn => by
    obtain ⟨rfl, _⟩ := h
    rfl
  | t :: r, o, n, h, hn => by
    rw [nst]
    rcases h with ⟨nm, as, rfl, _, _, h0, _, g⟩ | ⟨nm, rfl, h1, g⟩ | ⟨x, rfl, _, h1, g⟩
    · have ho : o ≠ [] := fun e => by have := h0 e; omega
      rw [if_neg ho, if_pos (show (tO nm as).1 = 0 from rfl)]
      rw [if_neg ho] at g
      exact okL_nst r _ n g hn
    · have ho : o ≠ [] := fun e => by rw [e] at h1; cases h1
      rw [if_neg ho, if_neg (show ¬ (tC nm).1 = 0 from fun e => absurd e (show ¬ (1 : Int) = 0 by decide)), if_pos (show (tC nm).1 = 1 from rfl), if_pos (show o.getLast? = some (tC nm).2.1 from h1)]
      exact okL_nst r _ n g hn
    · rw [if_neg h1, if_neg (show ¬ (tX x).1 = 0 from fun e => absurd e (show ¬ (2 : Int) = 0 by decide)), if_neg (show ¬ (tX x).1 = 1 from fun e => absurd e (show ¬ (2 : Int) = 1 by decide))]
      exact okL_nst r _ n g hn
theorem okL_nested {l : List Tk} (h : okL [] 0 l) : nested l = true := by
  cases l with
  | nil => exact absurd h.2 (by omega)
  | cons t r =>
    rcases h with ⟨nm, as, rfl, _, _, h0, _, g⟩ | ⟨nm, rfl, h1, g⟩ | ⟨x, rfl, _, h1, g⟩
    · rw [nested, if_pos (show (tO nm as).1 = 0 from rfl)]
      exact okL_nst r _ _ g (by simp)
    · cases h1
    · exact absurd rfl h1
/-- where the parts begin and end -/
def prF : Nat → Int → Nat → List Tk → List (Nat × Nat)
  | _, _, _, [] => []
  | i, d, b, t :: r =>
    if t.1 = 0 then prF (i + 1) (d + 1) (if d = 1 then i else b) r
    else if t.1 = 1 then (if d - 1 = 1 then (b, i + 1) :: prF (i + 1) (d - 1) b r else prF (i + 1) (d - 1) b r)
    else prF (i + 1) d b r
def prs (l : List Tk) : List (Nat × Nat) := prF 0 0 0 l
def cutP (l : List Tk) (p : Nat × Nat) : List Tk := (l.drop p.1).take (p.2 - p.1)
/-- the parts, piece by piece -/
def ptF : Int → List Tk → List Tk → List (List Tk)
  | _, _, [] => []
  | d, c, t :: r =>
    if t.1 = 0 then ptF (d + 1) (if d = 1 then [t] else c ++ [t]) r
    else if t.1 = 1 then (if d - 1 = 1 then (c ++ [t]) :: ptF (d - 1) (c ++ [t]) r else ptF (d - 1) (c ++ [t]) r)
    else ptF d (c ++ [t]) r
def parts (l : List Tk) : List (List Tk) := ptF 0 [] l
theorem prF_ptF : ∀ (r pre : List Tk) (d : Int) (b : Nat), b ≤ pre.length → (prF pre.length d b r).map (cutP (pre ++ r)) = ptF d (pre.drop b) r
  | [], _, _, _, _ => rfl
  | t :: r, pre, d, b, hb => by
    have e1 : (pre ++ [t]).length = pre.length + 1 := by simp
    have e2 : pre ++ t :: r = (pre ++ [t]) ++ r := by simp
    have e3 : (pre ++ [t]).drop b = pre.drop b ++ [t] := List.drop_append_of_le_length hb
    have e4 : (pre ++ [t]).drop pre.length = [t] := by simp
    rw [prF, ptF, e2, ← e1]
    by_cases h0 : t.1 = 0
    · rw [if_pos h0, if_pos h0]
      by_cases hd : d = 1
      · rw [if_pos hd, if_pos hd, prF_ptF r (pre ++ [t]) (d + 1) pre.length (by omega), e4]
      · rw [if_neg hd, if_neg hd, prF_ptF r (pre ++ [t]) (d + 1) b (by omega), e3]
    · rw [if_neg h0, if_neg h0]
      by_cases h1 : t.1 = 1
      · rw [if_pos h1, if_pos h1]
        by_cases hd : d - 1 = 1
        · rw [if_pos hd, if_pos hd, List.map_cons, prF_ptF r (pre ++ [t]) (d - 1) b (by omega), e3]
          congr 1
          unfold cutP
          simp only
          rw [List.drop_append_of_le_length (by omega), e3, List.take_append_of_le_length (by simp; omega), List.take_of_length_le (by simp; omega)]
        · rw [if_neg hd, if_neg hd, prF_ptF r (pre ++ [t]) (d - 1) b (by omega), e3]
      · rw [if_neg h1, if_neg h1, prF_ptF r (pre ++ [t]) d b (by omega), e3]
theorem parts_eq (l : List Tk) : parts l = (prs l).map (cutP l) := (prF_ptF l [] 0 0 (Nat.le_refl _)).symm
theorem prF_bd : ∀ (r : List Tk) (i : Nat) (d : Int) (b : Nat), b ≤ i → ∀ p ∈ prF i d b r, p.1 < p.2 ∧ p.2 ≤ i + r.length
  | [], _, _, _, _, p, hp => by cases hp
  | t :: r, i, d, b, hb, p, hp => by
    rw [prF] at hp
    have go : ∀ (d : Int) (b : Nat), b ≤ i + 1 → p ∈ prF (i + 1) d b r → p.1 < p.2 ∧ p.2 ≤ i + (t :: r).length := fun d b hb hp => by
      have := prF_bd r (i + 1) d b hb p hp
      rw [List.length_cons]; omega
    split at hp
    · exact go _ _ (by split <;> omega) hp
    · split at hp
      · split at hp
        · rcases List.mem_cons.1 hp with rfl | hp
          · rw [List.length_cons]; simp only; omega
          · exact go _ _ (by omega) hp
        · exact go _ _ (by omega) hp
      · exact go _ _ (by omega) hp
theorem prs_bd {l : List Tk} {p : Nat × Nat} (h : p ∈ prs l) : p.1 < p.2 ∧ p.2 ≤ l.length := by
  have := prF_bd l 0 0 0 (Nat.le_refl _) p h
  omega
theorem cutP_len {l : List Tk} {p : Nat × Nat} (h : p.1 < p.2 ∧ p.2 ≤ l.length) : (cutP l p).length = p.2 - p.1 := by
  unfold cutP; rw [List.length_take, List.length_drop]; omega
theorem cutP_at {l : List Tk} {p : Nat × Nat} (h : p.1 < p.2 ∧ p.2 ≤ l.length) {i : Nat} (hi : i < p.2 - p.1) : (cutP l p)[i]? = l[p.1 + i]? := by
  unfold cutP; rw [List.getElem?_take, if_pos hi, List.getElem?_drop]
theorem cutP_sub (l : List Tk) (p : Nat × Nat) : (cutP l p).Sublist l := (List.take_sublist _ _).trans (List.drop_sublist _ _)
/-- an element's local name -/
def nm1 : List Tk → B
  | [] => []
  | t :: _ => loc t.2.1
def named (ns : List B) (ps : List (List Tk)) : List (List Tk) := ps.filter fun p => ns.contains (nm1 p)
def prN (ns : List B) (l : List Tk) : List (Nat × Nat) := (prs l).filter fun p => ns.contains (nm1 (cutP l p))
theorem prN_named (ns : List B) (l : List Tk) : named ns (parts l) = (prN ns l).map (cutP l) := by
  rw [parts_eq, named, prN, List.filter_map]; rfl
/-- the first part of some names -/
def fstP (ns : List B) (l : List Tk) : List Tk := (named ns (parts l)).head?.getD []
theorem fstP_eq (ns : List B) (l : List Tk) : fstP ns l = match prN ns l with
    | [] => []
    | p :: _ => cutP l p := by
  unfold fstP
  rw [prN_named]
  cases prN ns l <;> rfl
/-- the texts of all pieces -/
def txs (l : List Tk) : B := l.flatMap (·.2.2.1)
def val (l : List Tk) : B := tr (txs l)
def vOf (ns : List B) (l : List Tk) : B := val (fstP ns l)
theorem txs_sub {l m : List Tk} (h : l.Sublist m) : (txs l).length ≤ (txs m).length := by
  induction h with
  | slnil => exact Nat.le_refl _
  | cons a _ ih => unfold txs at *; rw [List.flatMap_cons, List.length_append]; omega
  | cons_cons a _ ih => unfold txs at *; rw [List.flatMap_cons, List.flatMap_cons, List.length_append, List.length_append]; omega
theorem mem_named {ns : List B} {ps : List (List Tk)} {p : List Tk} (h : p ∈ named ns ps) : p ∈ ps := (List.mem_filter.1 h).1
theorem part_sub {l p : List Tk} (h : p ∈ parts l) : p.Sublist l := by
  rw [parts_eq] at h
  obtain ⟨q, _, rfl⟩ := List.mem_map.1 h
  exact cutP_sub l q
theorem fstP_sub (ns : List B) (l : List Tk) : (fstP ns l).Sublist l := by
  unfold fstP
  cases h : (named ns (parts l)).head? with
  | none => exact List.nil_sublist _
  | some p => exact part_sub (mem_named (List.mem_of_head? h))
def attF (nm : B) : List Atr → Option B
  | [] => none
  | a :: r => if loc a.1 = nm then some a.2 else attF nm r
def at1 (nm : B) : List Tk → Option B
  | [] => none
  | t :: _ => attF nm t.2.2.2
def sTitle : B := [116, 105, 116, 108, 101]
def sGuid : B := [103, 117, 105, 100]
def sLink : B := [108, 105, 110, 107]
def sDesc : B := [100, 101, 115, 99, 114, 105, 112, 116, 105, 111, 110]
def sId : B := [105, 100]
def sSum : B := [115, 117, 109, 109, 97, 114, 121]
def sCont : B := [99, 111, 110, 116, 101, 110, 116]
def sUpd : B := [117, 112, 100, 97, 116, 101, 100]
def sRel : B := [114, 101, 108]
def sHref : B := [104, 114, 101, 102]
def sAlt : B := [97, 108, 116, 101, 114, 110, 97, 116, 101]
def sRss : B := [114, 115, 115]
def sFeed : B := [102, 101, 101, 100]
def sChan : B := [99, 104, 97, 110, 110, 101, 108]
def sItem : B := [105, 116, 101, 109]
def sEntry : B := [101, 110, 116, 114, 121]
/-- does a link lead to something else? -/
def othP (p : List Tk) : Bool := match at1 sRel p with
  | none => false
  | some x => x != sAlt
def altF : List (List Tk) → B
  | [] => []
  | p :: r => if othP p = true then altF r else (at1 sHref p).getD []
def alt (l : List Tk) : B := altF (named [sLink] (parts l))
abbrev Ent := B × B × B × B × Int
def cut4 (e : Ent) : Ent := (e.1, e.2.1, e.2.2.1, e.2.2.2.1.take 4000, e.2.2.2.2)
def entR (p : List Tk) : Ent := (vOf [sGuid] p, vOf [sTitle] p, vOf [sLink] p, vOf [sDesc] p, 0)
/-- a time of a text, by what texts are parsed to -/
def secP (ps : B → Option Int) (t : B) : Int := match ps t with
  | none => 0
  | some s => if s < 0 ∨ 253402300799 < s then 0 else s
def entA (ps : B → Option Int) (p : List Tk) : Ent := (vOf [sId] p, vOf [sTitle] p, alt p, vOf [sSum, sCont] p, secP ps (vOf [sUpd] p))
abbrev Fee := B × List Ent
def bodyP (item : B) (ent : List Tk → Ent) (l : List Tk) : Fee := (vOf [sTitle] l, ((named [item] (parts l)).take 200).map fun p => cut4 (ent p))
def exP (ps : B → Option Int) (l : List Tk) : Fee × Int :=
  if nested l = true then
    if nm1 l = sRss then match named [sChan] (parts l) with
      | [] => (([], []), 2)
      | c :: _ => (bodyP sItem entR c, 0)
    else if nm1 l = sFeed then (bodyP sEntry (entA ps) l, 0)
    else (([], []), 2)
  else (([], []), 2)
def rdP (ps : B → Option Int) (b : B) : Fee × Int := if (tok b).2 = 0 then exP ps (tok b).1 else (([], []), (tok b).2)
/-! how long the texts of a document's pieces are -/
theorem txs_app (a b : List Tk) : txs (a ++ b) = txs a ++ txs b := by unfold txs; rw [List.flatMap_append]
theorem put_txs (x : B) (o : List B) (l : List Tk) : (txs (put x o l)).length ≤ (txs l).length + x.length := by
  unfold put
  split
  · omega
  · rw [txs_app, List.length_append]; simp [txs, tX]
theorem shut_txs {nm r : B} {s s' : St} (h : shut nm r s = .ok s') : (txs s'.l).length = (txs s.l).length ∧ s'.r = r := by
  obtain ⟨_, rfl⟩ := shut_ok h
  exact ⟨by simp [txs_app, txs, tC], rfl⟩
theorem step_txs {s s' : St} (h : Xm.step s = .ok s') : (txs s'.l).length + s'.r.length ≤ (txs s.l).length + s.r.length := by
  have pass : ∀ (p : B) (k : Nat), p ≠ [] → passS p k s = .ok s' → (txs s'.l).length + s'.r.length ≤ (txs s.l).length + s.r.length := fun p k hp h => by
    unfold passS at h
    split at h
    · cases h
    · rename_i a u e
      cases h
      have := (upt_len hp e).1
      rw [List.length_drop] at this
      simp only; omega
  unfold Xm.step at h
  split at h
  · unfold plainS at h
    simp only at h
    split at h
    · cases h
    · cases h
      have h1 := put_txs (gone (s.r.takeWhile (· != 60))).1 s.o s.l
      have h2 := gone_le (s.r.takeWhile (· != 60))
      have h3 := congrArg List.length (List.takeWhile_append_dropWhile (p := fun x : UInt8 => x != 60) (l := s.r))
      rw [List.length_append] at h3
      simp only; omega
  split at h
  · exact pass _ _ (by simp) h
  split at h
  · exact pass _ _ (by simp) h
  split at h
  · unfold dataS at h
    split at h
    · cases h
    · rename_i a u e
      split at h
      · cases h
      · cases h
        have h1 := put_txs a s.o s.l
        have h2 := congrArg List.length (upt_len (by simp) e).2
        simp only [List.length_append, List.length_drop, List.length_cons, List.length_nil] at h2
        simp only; omega
  split at h
  · exact pass _ _ (by simp) h
  split at h
  · unfold endS at h
    simp only at h
    split at h
    · split at h
      · rename_i u e
        obtain ⟨h1, h2⟩ := shut_txs h
        have h3 := skip_len (nmS (s.r.drop 2)).2
        have h4 := nmS_len (s.r.drop 2)
        rw [e] at h3
        simp only [List.length_drop, List.length_cons] at h3 h4
        rw [h2]; omega
      · cases h
    · cases h
  · unfold openS at h
    simp only at h
    split at h
    · split at h
      · cases h
      · rename_i as u e
        have h1 := (atrs_len _ _ _ _ _ e).1
        have h2 := nmS_len (s.r.drop 1)
        simp only [List.length_drop] at h2
        have h3 : ∀ nm as, (txs (s.l ++ [tO nm as])).length = (txs s.l).length := fun nm as => by simp [txs_app, txs, tO]
        split at h
        · cases h
        · split at h
          · cases h
          · split at h
            · cases h
              simp only [List.length_cons] at h1 ⊢
              rw [h3]; omega
            · obtain ⟨g1, g2⟩ := shut_txs h
              rw [h3] at g1
              simp only [List.length_cons] at h1
              rw [g2]; omega
            · cases h
    · cases h
theorem run_txs : ∀ (f : Nat) (s s' : St), run f s = .ok s' → (txs s'.l).length ≤ (txs s.l).length + s.r.length
  | 0, s, s', h => by cases h; omega
  | f + 1, s, s', h => by
    rw [run] at h
    split at h
    · cases h; omega
    · cases e : Xm.step s with
      | er k => rw [e] at h; cases h
      | ok s1 =>
        rw [e] at h
        have h1 := step_txs e
        have h2 := run_txs f s1 s' h
        omega
theorem tok_txs (b : B) : (txs (tok b).1).length ≤ b.length := by
  unfold tok
  split
  · simp [txs]
  · split
    · simp [txs]
    · rename_i s hs
      split
      · simp [txs]
      · have := run_txs _ _ _ hs
        simpa [txs] using this
theorem tr_le (l : B) : ∀ s g, (trF s g l).length ≤ l.length + (if g = true then 1 else 0) := by
  induction l with
  | nil => intro s g; simp [trF]
  | cons c r ih =>
    intro s g
    by_cases h : spB c = true
    · rw [trF_sp h]
      have := ih s s
      rw [List.length_cons]
      split at this <;> omega
    · rw [trF_no (by simpa using h)]
      have := ih true false
      rw [List.length_append, List.length_cons]
      simp only [Bool.false_eq_true, if_false] at this
      split <;> simp <;> omega
theorem val_len (l : List Tk) : (val l).length ≤ (txs l).length := by
  have := tr_le (txs l) false false
  simpa [val, tr] using this
end Go.Proofs.YtflhmgnhjnaiiaaGreatDoor.Fd
/- Plain mathematics of feeds: what is told has no blanks too many. -/
set_option linter.unusedVariables false
namespace Go.Proofs.YtflhmgnhjnaiiaaGreatDoor.Fd
open En Xm
def EntOk (e : Ent) : Prop := tr e.1 = e.1 ∧ tr e.2.1 = e.2.1 ∧ tr e.2.2.2.1 = e.2.2.2.1 ∧ e.1.length ≤ 3000 ∧ e.2.1.length ≤ 3000 ∧ e.2.2.2.1.length ≤ 3000 ∧ 0 ≤ e.2.2.2.2 ∧ e.2.2.2.2 ≤ 253402300799
def FeeOk (f : Fee) : Prop := tr f.1 = f.1 ∧ f.1.length ≤ 3000 ∧ f.2.length ≤ 200 ∧ ∀ e ∈ f.2, EntOk e
theorem vOf_tr (ns : List B) (l : List Tk) : tr (vOf ns l) = vOf ns l := tr_tr _
theorem vOf_len (ns : List B) (l : List Tk) : (vOf ns l).length ≤ (txs l).length := Nat.le_trans (val_len _) (txs_sub (fstP_sub ns l))
theorem secP_bd (ps : B → Option Int) (t : B) : 0 ≤ secP ps t ∧ secP ps t ≤ 253402300799 := by
  unfold secP
  split
  · omega
  · split <;> omega
theorem entR_ok (p : List Tk) (h : (txs p).length ≤ 3000) : EntOk (cut4 (entR p)) := by
  have e : cut4 (entR p) = entR p := by
    unfold cut4 entR
    simp only
    rw [List.take_of_length_le (by have := vOf_len [sDesc] p; omega)]
  rw [e]
  unfold entR
  exact ⟨vOf_tr _ _, vOf_tr _ _, vOf_tr _ _, Nat.le_trans (vOf_len _ _) h, Nat.le_trans (vOf_len _ _) h, Nat.le_trans (vOf_len _ _) h, by simp, by simp⟩
theorem entA_ok (ps : B → Option Int) (p : List Tk) (h : (txs p).length ≤ 3000) : EntOk (cut4 (entA ps p)) := by
  have e : cut4 (entA ps p) = entA ps p := by
    unfold cut4 entA
    simp only
    rw [List.take_of_length_le (by have := vOf_len [sSum, sCont] p; omega)]
  rw [e]
  unfold entA
  exact ⟨vOf_tr _ _, vOf_tr _ _, vOf_tr _ _, Nat.le_trans (vOf_len _ _) h, Nat.le_trans (vOf_len _ _) h, Nat.le_trans (vOf_len _ _) h, (secP_bd _ _).1, (secP_bd _ _).2⟩
theorem body_ok (item : B) (ent : List Tk → Ent) (l : List Tk) (h : (txs l).length ≤ 3000) (he : ∀ p, (txs p).length ≤ 3000 → EntOk (cut4 (ent p))) : FeeOk (bodyP item ent l) := by
  refine ⟨vOf_tr _ _, Nat.le_trans (vOf_len _ _) h, ?_, fun e hm => ?_⟩
  · unfold bodyP; simp only [List.length_map, List.length_take]; omega
  · unfold bodyP at hm
    simp only at hm
    obtain ⟨p, hp, rfl⟩ := List.mem_map.1 hm
    exact he p (Nat.le_trans (txs_sub (part_sub (mem_named (List.mem_of_mem_take hp)))) h)
theorem ex_ok (ps : B → Option Int) (l : List Tk) (h : (txs l).length ≤ 3000) : ((exP ps l).2 = 0 ∧ FeeOk (exP ps l).1) ∨ ((exP ps l).2 ≠ 0 ∧ (exP ps l).1 = ([], [])) := by
  unfold exP
  split
  · split
    · split
      · exact Or.inr ⟨by decide, rfl⟩
      · rename_i c r hc
        have hm : c ∈ parts l := mem_named (show c ∈ named [sChan] (parts l) by rw [hc]; exact List.mem_cons_self)
        exact Or.inl ⟨rfl, body_ok _ _ _ (Nat.le_trans (txs_sub (part_sub hm)) h) entR_ok⟩
    · split
      · exact Or.inl ⟨rfl, body_ok _ _ _ h (entA_ok ps)⟩
      · exact Or.inr ⟨by decide, rfl⟩
  · exact Or.inr ⟨by decide, rfl⟩
theorem rd_ok (ps : B → Option Int) (b : B) (h : b.length ≤ 3000) : ((rdP ps b).2 = 0 ∧ FeeOk (rdP ps b).1) ∨ ((rdP ps b).2 ≠ 0 ∧ (rdP ps b).1 = ([], [])) := by
  unfold rdP
  split
  · exact ex_ok ps _ (Nat.le_trans (tok_txs b) h)
  · rename_i h0
    exact Or.inr ⟨h0, rfl⟩
end Go.Proofs.YtflhmgnhjnaiiaaGreatDoor.Fd
