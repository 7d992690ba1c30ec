/- Several texts of this seat, one behind the other. -/
import Derived.Test.YtflhmgnhjnaiiaaGreatDoorFdP
set_option linter.unusedSimpArgs false
/- Plain mathematics of feeds: documents that are put together, and what they tell. -/
set_option linter.unusedVariables false
namespace Go.Proofs.YtflhmgnhjnaiiaaGreatDoor.Fd
open En Xm
/-- from here on a document has these pieces -/
def Dn (r : B) (o : List B) (n : Nat) (l : List Tk) : Prop := ∀ acc, ∃ n', 1 ≤ n' ∧ run r.length ⟨r, o, n, acc⟩ = .ok ⟨[], [], n', acc ++ l⟩
theorem Dn.nil {n : Nat} (h : 1 ≤ n) : Dn [] [] n [] := fun acc => ⟨n, h, by simp [run]⟩
theorem Dn.step {r r' : B} {o o' : List B} {n n' : Nat} {d l : List Tk} (hr : r ≠ []) (h : ∀ acc, Xm.step ⟨r, o, n, acc⟩ = .ok ⟨r', o', n', acc ++ d⟩) (k : Dn r' o' n' l) : Dn r o n (d ++ l) := fun acc => by
  obtain ⟨m, h1, h2⟩ := k (acc ++ d)
  refine ⟨m, h1, ?_⟩
  have := run_go (s := ⟨r, o, n, acc⟩) hr (h acc)
  simp only at this
  rw [this, h2, List.append_assoc]
theorem Dn.tok {r : B} {l : List Tk} (h : Dn r [] 0 l) (hl : r.length ≤ 100000) : tok r = (l, 0) := by
  obtain ⟨m, h1, h2⟩ := h []
  unfold Xm.tok
  rw [if_neg (by omega), h2]
  simp only [List.nil_append]
  rw [if_neg (by rintro (q | q); exact q rfl; omega)]
/-- a tag that opens, one that closes, and what stands behind it -/
def opn (nm R : B) : B := 60 :: nm ++ 62 :: R
def cls (nm R : B) : B := 60 :: 47 :: nm ++ 62 :: R
def tw (x : B) : List Tk := if x = [] then [] else [tX x]
theorem Dn.op {nm R : B} {o : List B} {n : Nat} {l : List Tk} (hn : isN nm = true) (h0 : o = [] → n = 0) (hd : o.length < 20) (k : Dn R (o ++ [nm]) (if o = [] then n + 1 else n) l) : Dn (opn nm R) o n (tO nm [] :: l) :=
  Dn.step (d := [tO nm []]) (by simp [opn]) (fun acc => by
    have := step_wO (as := []) hn ⟨(fun a ha => by cases ha), by simp⟩ R o n acc h0 hd
    have e : wrK (tO nm []) ++ R = opn nm R := by rw [wrK_O]; simp [opn]
    rw [e] at this
    exact this) k
theorem Dn.cl {nm R : B} {o : List B} {n : Nat} {l : List Tk} (hn : isN nm = true) (hl : o.getLast? = some nm) (k : Dn R o.dropLast n l) : Dn (cls nm R) o n (tC nm :: l) :=
  Dn.step (d := [tC nm]) (by simp [cls]) (fun acc => by
    have := step_wC hn R o n acc hl
    have e : wrK (tC nm) ++ R = cls nm R := by rw [wrK_C]; simp [cls]
    rw [e] at this
    exact this) k
theorem Dn.tx {x R : B} {o : List B} {n : Nat} {l : List Tk} (hx : enc x = x) (ho : o ≠ []) (hR : ∃ R', R = 60 :: R') (k : Dn R o n l) : Dn (x ++ R) o n (tw x ++ l) := by
  obtain ⟨R', rfl⟩ := hR
  unfold tw
  by_cases h : x = []
  · rw [if_pos h, h]
    exact k
  · rw [if_neg h]
    refine Dn.step (by simp) (fun acc => ?_) k
    have := step_wX h R' o n acc ho
    rwa [wrK_X, hx] at this
theorem opn_hd (nm R : B) : ∃ R', opn nm R = 60 :: R' := ⟨_, rfl⟩
theorem cls_hd (nm R : B) : ∃ R', cls nm R = 60 :: R' := ⟨_, rfl⟩
theorem enc_id : ∀ {x : B}, (∀ c ∈ x, c ≠ 38 ∧ c ≠ 60 ∧ c ≠ 62 ∧ c ≠ 34) → enc x = x
  | [], _ => rfl
  | c :: x, h => by
    obtain ⟨h1, h2, h3, h4⟩ := h c (by simp)
    have ih := enc_id (x := x) (fun d hd => h d (by simp [hd]))
    have e : encC c = [c] := by unfold encC; rw [if_neg h1, if_neg h2, if_neg h3, if_neg h4]
    unfold enc at *
    rw [List.flatMap_cons, e, ih]; rfl
/-! parts of what is put together -/
def el (nm : B) (as : List Atr) (b : List Tk) : List Tk := tO nm as :: b ++ [tC nm]
/-- pieces of one another, that are no element of their own -/
def Bal (b : List Tk) : Prop := ∀ (d : Int) (c r : List Tk), 2 ≤ d → ptF d c (b ++ r) = ptF d (c ++ b) r
theorem ptF_O (d : Int) (c r : List Tk) (nm : B) (as : List Atr) : ptF d c (tO nm as :: r) = ptF (d + 1) (if d = 1 then [tO nm as] else c ++ [tO nm as]) r := by rw [ptF, if_pos (show (tO nm as).1 = 0 from rfl)]
theorem ptF_C (d : Int) (c r : List Tk) (nm : B) : ptF d c (tC nm :: r) = if d - 1 = 1 then (c ++ [tC nm]) :: ptF (d - 1) (c ++ [tC nm]) r else ptF (d - 1) (c ++ [tC nm]) r := by
  rw [ptF, if_neg (show ¬ (tC nm).1 = 0 from fun e => absurd e (show ¬ (1 : Int) = 0 by decide)), if_pos (show (tC nm).1 = 1 from rfl)]
theorem ptF_X (d : Int) (c r : List Tk) (x : B) : ptF d c (tX x :: r) = ptF d (c ++ [tX x]) r := by
  rw [ptF, if_neg (show ¬ (tX x).1 = 0 from fun e => absurd e (show ¬ (2 : Int) = 0 by decide)), if_neg (show ¬ (tX x).1 = 1 from fun e => absurd e (show ¬ (2 : Int) = 1 by decide))]
theorem ptF_tw (d : Int) (c r : List Tk) (x : B) : ptF d c (tw x ++ r) = ptF d (c ++ tw x) r := by
  unfold tw
  split
  · simp
  · exact ptF_X d c r x
theorem bal_nil : Bal [] := fun d c r _ => by simp
theorem bal_tw (x : B) : Bal (tw x) := fun d c r _ => ptF_tw d c r x
theorem bal_app {a b : List Tk} (h : Bal a) (k : Bal b) : Bal (a ++ b) := fun d c r hd => by rw [List.append_assoc, h d c _ hd, k d _ r hd, List.append_assoc]
theorem bal_el {nm : B} {as : List Atr} {b : List Tk} (h : Bal b) : Bal (el nm as b) := fun d c r hd => by
  unfold el
  rw [List.cons_append, List.cons_append, ptF_O, if_neg (by omega), List.append_assoc, h (d + 1) _ _ (by omega)]
  show ptF (d + 1) ((c ++ [tO nm as]) ++ b) (tC nm :: r) = _
  rw [ptF_C, if_neg (by omega), show d + 1 - 1 = d by omega]
  simp
/-- what stands right within an element, and which elements they are -/
def Pb (b : List Tk) (ps : List (List Tk)) : Prop := ∀ c r, ∃ c', ptF 1 c (b ++ r) = ps ++ ptF 1 c' r
theorem pb_nil : Pb [] [] := fun c r => ⟨c, rfl⟩
theorem pb_tw (x : B) : Pb (tw x) [] := fun c r => ⟨c ++ tw x, ptF_tw 1 c r x⟩
theorem pb_el {nm : B} {as : List Atr} {b : List Tk} (h : Bal b) : Pb (el nm as b) [el nm as b] := fun c r => by
  refine ⟨el nm as b, ?_⟩
  unfold el
  rw [List.cons_append, List.cons_append, ptF_O, if_pos rfl, List.append_assoc, show (1 : Int) + 1 = 2 by decide, h 2 _ _ (by omega)]
  show ptF 2 ([tO nm as] ++ b) (tC nm :: r) = _
  rw [ptF_C, if_pos (by decide)]
  rfl
theorem pb_app {a b : List Tk} {ps qs : List (List Tk)} (h : Pb a ps) (k : Pb b qs) : Pb (a ++ b) (ps ++ qs) := fun c r => by
  obtain ⟨c1, h1⟩ := h c (b ++ r)
  obtain ⟨c2, h2⟩ := k c1 r
  exact ⟨c2, by rw [List.append_assoc, h1, h2, List.append_assoc]⟩
theorem parts_el {nm : B} {as : List Atr} {b : List Tk} {ps : List (List Tk)} (h : Pb b ps) : parts (el nm as b) = ps := by
  unfold parts el
  rw [List.cons_append, ptF_O, if_neg (by decide)]
  obtain ⟨c, h1⟩ := h ([] ++ [tO nm as]) [tC nm]
  rw [show (0 : Int) + 1 = 1 by decide, h1, ptF_C, if_neg (by decide), ptF]
  simp
theorem nm1_el (nm : B) (as : List Atr) (b : List Tk) : nm1 (el nm as b) = loc nm := rfl
theorem txs_el (nm : B) (as : List Atr) (b : List Tk) : txs (el nm as b) = txs b := by
  unfold el txs
  simp [tO, tC]
theorem txs_tw (x : B) : txs (tw x) = x := by
  unfold tw
  split
  · rename_i h; rw [h]; rfl
  · simp [txs, tX]
theorem val_el (nm : B) (as : List Atr) (x : B) : val (el nm as (tw x)) = tr x := by unfold val; rw [txs_el, txs_tw]
theorem trF_word : ∀ (x : B) (s : Bool), (∀ c ∈ x, spB c = false) → trF s false x = x
  | [], s, _ => by simp [trF]
  | c :: x, s, h => by
    rw [trF_no (h c (by simp)), if_neg (by decide), trF_word x true (fun d hd => h d (by simp [hd]))]; rfl
theorem tr_word {x : B} (h : ∀ c ∈ x, spB c = false) : tr x = x := trF_word x false h
theorem at1_el (nm k : B) (as : List Atr) (b : List Tk) : at1 k (el nm as b) = attF k as := rfl
end Go.Proofs.YtflhmgnhjnaiiaaGreatDoor.Fd
/- Plain mathematics of feeds: the same entry as either kind. -/
set_option linter.unusedVariables false
namespace Go.Proofs.YtflhmgnhjnaiiaaGreatDoor.Fd
open En Xm
theorem Dn.op1 {nm R : B} {l : List Tk} (hn : isN nm = true) (k : Dn R ([] ++ [nm]) 1 l) : Dn (opn nm R) [] 0 (tO nm [] :: l) :=
  Dn.op hn (fun _ => rfl) (by simp) (by rw [if_pos rfl]; exact k)
theorem Dn.opS {nm R x : B} {o : List B} {n : Nat} {l : List Tk} (hn : isN nm = true) (hd : o.length < 15) (k : Dn R ((o ++ [x]) ++ [nm]) n l) : Dn (opn nm R) (o ++ [x]) n (tO nm [] :: l) :=
  Dn.op hn (fun h => absurd h (by simp)) (by simp; omega) (by rw [if_neg (by simp)]; exact k)
theorem Dn.clS {nm R : B} {o : List B} {n : Nat} {l : List Tk} (hn : isN nm = true) (k : Dn R o n l) : Dn (cls nm R) (o ++ [nm]) n (tC nm :: l) :=
  Dn.cl hn (by simp) (by simpa using k)
theorem Dn.txS {x R y : B} {o : List B} {n : Nat} {l : List Tk} (hx : enc x = x) (hR : ∃ R', R = 60 :: R') (k : Dn R (o ++ [y]) n l) : Dn (x ++ R) (o ++ [y]) n (tw x ++ l) := Dn.tx hx (by simp) hR k
/-! the first part of some names among given ones -/
def fstL (ns : List B) (ps : List (List Tk)) : List Tk := ((named ns ps).head?).getD []
theorem fstL_nil (ns : List B) : fstL ns [] = [] := rfl
theorem fstL_el (ns : List B) (nm : B) (as : List Atr) (b : List Tk) (r : List (List Tk)) : fstL ns (el nm as b :: r) = if ns.contains (loc nm) = true then el nm as b else fstL ns r := by
  unfold fstL named
  rw [List.filter_cons, nm1_el]
  split <;> rfl
theorem nmd_nil (ns : List B) : named ns [] = [] := rfl
theorem nmd_el (ns : List B) (nm : B) (as : List Atr) (b : List Tk) (r : List (List Tk)) : named ns (el nm as b :: r) = if ns.contains (loc nm) = true then el nm as b :: named ns r else named ns r := by
  unfold named
  rw [List.filter_cons, nm1_el]
theorem vOf_L {ns : List B} {l : List Tk} {ps : List (List Tk)} (h : parts l = ps) : vOf ns l = val (fstL ns ps) := by unfold vOf fstP fstL; rw [h]
theorem val_nil : val [] = [] := rfl
/-- a word: letters alone -/
def Wd' (x : B) : Prop := ∀ c ∈ x, 97 ≤ c.toNat ∧ c.toNat ≤ 122
theorem wd_sp {x : B} (h : Wd' x) : ∀ c ∈ x, spB c = false := fun c hc => by
  have := h c hc
  unfold spB
  simp; omega
theorem wd_enc {x : B} (h : Wd' x) : enc x = x := enc_id (fun c hc => by
  have := h c hc
  refine ⟨?_, ?_, ?_, ?_⟩ <;> (rintro rfl; simp at this))
theorem wd_tr {x : B} (h : Wd' x) : tr x = x := tr_word (wd_sp h)
theorem nested_of {r : B} {l : List Tk} (h : tok r = (l, 0)) : nested l = true := okL_nested (tok_ok h).1
theorem dn_eq {r : B} {o : List B} {n : Nat} {l m : List Tk} (h : Dn r o n l) (e : l = m) : Dn r o n m := e ▸ h
/-! the first kind -/
def sF : B := [70]
def kOne (id ti li te : B) : B := opn sRss (opn sChan (opn sTitle (sF ++ cls sTitle (opn sItem (opn sGuid (id ++ cls sGuid (opn sTitle (ti ++ cls sTitle (opn sLink (li ++ cls sLink (opn sDesc (te ++ cls sDesc (cls sItem (cls sChan (cls sRss [])))))))))))))))
def iOne (id ti li te : B) : List Tk := el sItem [] (el sGuid [] (tw id) ++ (el sTitle [] (tw ti) ++ (el sLink [] (tw li) ++ el sDesc [] (tw te))))
def cOne (id ti li te : B) : List Tk := el sChan [] (el sTitle [] (tw sF) ++ iOne id ti li te)
def mOne (id ti li te : B) : List Tk := el sRss [] (cOne id ti li te)
theorem one_dn {id ti li te : B} (h1 : enc id = id) (h2 : enc ti = ti) (h3 : enc li = li) (h4 : enc te = te) : Dn (kOne id ti li te) [] 0 (mOne id ti li te) := by
  have h := Dn.op1 (nm := sRss) (by decide) (Dn.opS (nm := sChan) (by decide) (by simp) (Dn.opS (nm := sTitle) (by decide) (by simp) (Dn.txS (x := sF) (by decide) (cls_hd _ _) (Dn.clS (nm := sTitle) (by decide)
    (Dn.opS (nm := sItem) (by decide) (by simp) (Dn.opS (nm := sGuid) (by decide) (by simp) (Dn.txS h1 (cls_hd _ _) (Dn.clS (nm := sGuid) (by decide)
    (Dn.opS (nm := sTitle) (by decide) (by simp) (Dn.txS h2 (cls_hd _ _) (Dn.clS (nm := sTitle) (by decide)
    (Dn.opS (nm := sLink) (by decide) (by simp) (Dn.txS h3 (cls_hd _ _) (Dn.clS (nm := sLink) (by decide)
    (Dn.opS (nm := sDesc) (by decide) (by simp) (Dn.txS h4 (cls_hd _ _) (Dn.clS (nm := sDesc) (by decide)
    (Dn.clS (nm := sItem) (by decide) (Dn.clS (nm := sChan) (by decide) (Dn.clS (nm := sRss) (by decide) (Dn.nil (Nat.le_refl 1))))))))))))))))))))))
  exact dn_eq h (by simp [mOne, cOne, iOne, el])
theorem one_len (id ti li te : B) (a : id.length ≤ 40) (b : ti.length ≤ 40) (c : li.length ≤ 40) (d : te.length ≤ 40) : (kOne id ti li te).length ≤ 1000 := by
  unfold kOne opn cls sRss sChan sTitle sItem sGuid sLink sDesc sF
  simp only [List.length_append, List.length_cons, List.length_nil]
  omega
theorem one_parts (id ti li te : B) : parts (iOne id ti li te) = [el sGuid [] (tw id), el sTitle [] (tw ti), el sLink [] (tw li), el sDesc [] (tw te)] ∧ parts (cOne id ti li te) = [el sTitle [] (tw sF), iOne id ti li te] ∧ parts (mOne id ti li te) = [cOne id ti li te] := by
  have hb : Bal (el sGuid [] (tw id) ++ (el sTitle [] (tw ti) ++ (el sLink [] (tw li) ++ el sDesc [] (tw te)))) := bal_app (bal_el (bal_tw _)) (bal_app (bal_el (bal_tw _)) (bal_app (bal_el (bal_tw _)) (bal_el (bal_tw _))))
  refine ⟨parts_el ?_, parts_el ?_, parts_el ?_⟩
  · exact pb_app (pb_el (bal_tw id)) (pb_app (pb_el (bal_tw ti)) (pb_app (pb_el (bal_tw li)) (pb_el (bal_tw te))))
  · exact pb_app (pb_el (bal_tw sF)) (pb_el hb)
  · exact pb_el (bal_app (bal_el (bal_tw sF)) (bal_el hb))
theorem one_rd (ps : B → Option Int) {id ti li te : B} (h1 : Wd' id) (h2 : Wd' ti) (h3 : Wd' li) (h4 : Wd' te) (a : id.length ≤ 40) (b : ti.length ≤ 40) (c : li.length ≤ 40) (d : te.length ≤ 40) : rdP ps (kOne id ti li te) = ((sF, [(id, ti, li, te, 0)]), 0) := by
  have ht := (one_dn (wd_enc h1) (wd_enc h2) (wd_enc h3) (wd_enc h4)).tok (Nat.le_trans (one_len id ti li te a b c d) (by decide))
  obtain ⟨p1, p2, p3⟩ := one_parts id ti li te
  have hent : entR (iOne id ti li te) = (id, ti, li, te, 0) := by
    unfold entR
    rw [vOf_L p1, vOf_L p1, vOf_L p1, vOf_L p1]
    simp only [fstL_el]
    rw [if_pos (by decide), if_neg (by decide), if_pos (by decide), if_neg (by decide), if_neg (by decide), if_pos (by decide), if_neg (by decide), if_neg (by decide), if_neg (by decide), if_pos (by decide)]
    rw [val_el, val_el, val_el, val_el, wd_tr h1, wd_tr h2, wd_tr h3, wd_tr h4]
  unfold rdP
  rw [ht, if_pos rfl]
  unfold exP
  rw [if_pos (nested_of ht), show nm1 (mOne id ti li te) = sRss from rfl, if_pos rfl, p3, show named [sChan] [cOne id ti li te] = [cOne id ti li te] from by unfold cOne; rw [nmd_el, if_pos (by decide), nmd_nil]]
  simp only
  unfold bodyP
  rw [vOf_L p2, p2, fstL_el, if_pos (by decide), val_el, nmd_el, if_neg (by decide), show named [sItem] [iOne id ti li te] = [iOne id ti li te] from by unfold iOne; rw [nmd_el, if_pos (by decide), nmd_nil]]
  simp only [List.take_succ_cons, List.take_nil, List.map_cons, List.map_nil, hent]
  rw [show tr sF = sF from by decide]
  unfold cut4
  simp only
  rw [List.take_of_length_le (by omega)]
end Go.Proofs.YtflhmgnhjnaiiaaGreatDoor.Fd
/- Plain mathematics of feeds: the other kind. -/
set_option linter.unusedVariables false
namespace Go.Proofs.YtflhmgnhjnaiiaaGreatDoor.Fd
open En Xm
/-- a link that is closed at once -/
def lkE (li R : B) : B := 60 :: sLink ++ (wrA (sHref, li) ++ 47 :: 62 :: R)
theorem step_lk (li R : B) (o : List B) (n : Nat) (l : List Tk) (ho : o ≠ []) (hd : o.length < 20) : Xm.step ⟨lkE li R, o, n, l⟩ = .ok ⟨R, o, n, l ++ [tO sLink [(sHref, li)], tC sLink]⟩ := by
  have hn : isN sLink = true := by decide
  have hh : isN (sHref, li).1 = true := show isN sHref = true by decide
  unfold lkE
  rw [step_open hn]
  unfold openS
  have e2 : (60 :: sLink ++ (wrA (sHref, li) ++ 47 :: 62 :: R)).drop 1 = sLink ++ (wrA (sHref, li) ++ 47 :: 62 :: R) := rfl
  have e3 : nmS (sLink ++ (wrA (sHref, li) ++ 47 :: 62 :: R)) = (sLink, wrA (sHref, li) ++ 47 :: 62 :: R) := nmS_app hn _ (fun c r hc => by
    unfold wrA at hc
    simp only [List.cons_append, List.cons.injEq] at hc
    rw [← hc.1]; decide)
  have e4 : atrs ((wrA (sHref, li) ++ 47 :: 62 :: R).length + 1) (wrA (sHref, li) ++ 47 :: 62 :: R) [] = some ([(sHref, li)], 47 :: 62 :: R) := by
    have e : wrA (sHref, li) ++ 47 :: 62 :: R = 32 :: (sHref ++ 61 :: 34 :: enc li ++ 34 :: (47 :: 62 :: R)) := by unfold wrA; simp
    have hs : skip (32 :: (sHref ++ 61 :: 34 :: enc li ++ 34 :: (47 :: 62 :: R))) = sHref ++ 61 :: 34 :: enc li ++ 34 :: (47 :: 62 :: R) := skip_sp 104 _ (by decide)
    have hs2 : skip (47 :: 62 :: R) = 47 :: 62 :: R := by unfold skip; rw [List.dropWhile_cons, if_neg (by decide)]
    have ha := atr_wr (a := (sHref, li)) hh (47 :: 62 :: R)
    simp only at ha
    rw [e, atrs, hs, if_neg (by unfold sHref tagEnd; simp), if_neg (by
      rintro (q | q)
      · simp at q
      · unfold sHref at q; simp at q), ha]
    simp only
    rw [if_neg (by simp)]
    rw [List.length_cons, atrs, hs2, if_pos (show tagEnd (47 :: 62 :: R) = true from rfl)]
    simp
  simp only [e2, e3, if_pos hn, e4]
  rw [if_neg (fun q => ho q.1), if_neg (by omega)]
  unfold shut
  simp [ho]
theorem Dn.lk {li R x : B} {o : List B} {n : Nat} {l : List Tk} (hd : o.length < 15) (k : Dn R (o ++ [x]) n l) : Dn (lkE li R) (o ++ [x]) n (tO sLink [(sHref, li)] :: tC sLink :: l) :=
  Dn.step (d := [tO sLink [(sHref, li)], tC sLink]) (by simp [lkE]) (fun acc => step_lk li R _ n acc (by simp) (by simp; omega)) k
def kTwo (id ti li te : B) : B := opn sFeed (opn sTitle (sF ++ cls sTitle (opn sEntry (opn sId (id ++ cls sId (opn sTitle (ti ++ cls sTitle (lkE li (opn sSum (te ++ cls sSum (cls sEntry (cls sFeed []))))))))))))
def iTwo (id ti li te : B) : List Tk := el sEntry [] (el sId [] (tw id) ++ (el sTitle [] (tw ti) ++ (el sLink [(sHref, li)] [] ++ el sSum [] (tw te))))
def mTwo (id ti li te : B) : List Tk := el sFeed [] (el sTitle [] (tw sF) ++ iTwo id ti li te)
theorem lk_hd (li R : B) : ∃ R', lkE li R = 60 :: R' := ⟨_, rfl⟩
theorem two_dn {id ti te : B} (li : B) (h1 : enc id = id) (h2 : enc ti = ti) (h4 : enc te = te) : Dn (kTwo id ti li te) [] 0 (mTwo id ti li te) := by
  have h := Dn.op1 (nm := sFeed) (by decide) (Dn.opS (nm := sTitle) (by decide) (by simp) (Dn.txS (x := sF) (by decide) (cls_hd _ _) (Dn.clS (nm := sTitle) (by decide)
    (Dn.opS (nm := sEntry) (by decide) (by simp) (Dn.opS (nm := sId) (by decide) (by simp) (Dn.txS h1 (cls_hd _ _) (Dn.clS (nm := sId) (by decide)
    (Dn.opS (nm := sTitle) (by decide) (by simp) (Dn.txS h2 (cls_hd _ _) (Dn.clS (nm := sTitle) (by decide)
    (Dn.lk (li := li) (by simp)
    (Dn.opS (nm := sSum) (by decide) (by simp) (Dn.txS h4 (cls_hd _ _) (Dn.clS (nm := sSum) (by decide)
    (Dn.clS (nm := sEntry) (by decide) (Dn.clS (nm := sFeed) (by decide) (Dn.nil (Nat.le_refl 1))))))))))))))))))
  exact dn_eq h (by simp [mTwo, iTwo, el])
theorem two_len (id ti li te : B) (a : id.length ≤ 40) (b : ti.length ≤ 40) (c : li.length ≤ 40) (d : te.length ≤ 40) : (kTwo id ti li te).length ≤ 1000 := by
  have := enc_len li
  unfold kTwo lkE wrA opn cls sFeed sTitle sEntry sId sLink sSum sF sHref
  simp only [List.length_append, List.length_cons, List.length_nil]
  omega
theorem two_parts (id ti li te : B) : parts (iTwo id ti li te) = [el sId [] (tw id), el sTitle [] (tw ti), el sLink [(sHref, li)] [], el sSum [] (tw te)] ∧ parts (mTwo id ti li te) = [el sTitle [] (tw sF), iTwo id ti li te] := by
  have hb : Bal (el sId [] (tw id) ++ (el sTitle [] (tw ti) ++ (el sLink [(sHref, li)] [] ++ el sSum [] (tw te)))) := bal_app (bal_el (bal_tw _)) (bal_app (bal_el (bal_tw _)) (bal_app (bal_el bal_nil) (bal_el (bal_tw _))))
  refine ⟨parts_el ?_, parts_el ?_⟩
  · exact pb_app (pb_el (bal_tw id)) (pb_app (pb_el (bal_tw ti)) (pb_app (pb_el bal_nil) (pb_el (bal_tw te))))
  · exact pb_app (pb_el (bal_tw sF)) (pb_el hb)
theorem two_rd (ps : B → Option Int) (hps : ps [] = none) {id ti li te : B} (h1 : Wd' id) (h2 : Wd' ti) (h3 : Wd' li) (h4 : Wd' te) (a : id.length ≤ 40) (b : ti.length ≤ 40) (c : li.length ≤ 40) (d : te.length ≤ 40) : rdP ps (kTwo id ti li te) = ((sF, [(id, ti, li, te, 0)]), 0) := by
  have ht := (two_dn li (wd_enc h1) (wd_enc h2) (wd_enc h4)).tok (Nat.le_trans (two_len id ti li te a b c d) (by decide))
  obtain ⟨p1, p2⟩ := two_parts id ti li te
  have halt : alt (iTwo id ti li te) = li := by
    unfold alt
    rw [p1, nmd_el, if_neg (by decide), nmd_el, if_neg (by decide), nmd_el, if_pos (by decide), nmd_el, if_neg (by decide), nmd_nil, altF]
    have e1 : at1 sRel (el sLink [(sHref, li)] []) = none := by rw [at1_el, attF, if_neg (show ¬ loc sHref = sRel by decide), attF]
    have e2 : at1 sHref (el sLink [(sHref, li)] []) = some li := by rw [at1_el, attF, if_pos (show loc sHref = sHref by decide)]
    rw [if_neg (by unfold othP; rw [e1]; decide), e2]; rfl
  have hent : entA ps (iTwo id ti li te) = (id, ti, li, te, 0) := by
    unfold entA
    rw [halt, vOf_L p1, vOf_L p1, vOf_L p1, vOf_L p1]
    simp only [fstL_el, fstL_nil]
    rw [if_pos (by decide), if_neg (by decide), if_pos (by decide), if_neg (by decide), if_neg (by decide), if_neg (by decide), if_pos (by decide), if_neg (by decide), if_neg (by decide), if_neg (by decide), if_neg (by decide)]
    rw [val_el, val_el, val_el, val_nil, wd_tr h1, wd_tr h2, wd_tr h4]
    unfold secP
    rw [hps]
  unfold rdP
  rw [ht, if_pos rfl]
  unfold exP
  rw [if_pos (nested_of ht), show nm1 (mTwo id ti li te) = sFeed from rfl, if_neg (by decide), if_pos rfl]
  unfold bodyP
  rw [vOf_L p2, p2, fstL_el, if_pos (by decide), val_el, nmd_el, if_neg (by decide), show named [sEntry] [iTwo id ti li te] = [iTwo id ti li te] from by unfold iTwo; rw [nmd_el, if_pos (by decide), nmd_nil]]
  simp only [List.take_succ_cons, List.take_nil, List.map_cons, List.map_nil, hent]
  rw [show tr sF = sF from by decide]
  unfold cut4
  simp only
  rw [List.take_of_length_le (by omega)]
end Go.Proofs.YtflhmgnhjnaiiaaGreatDoor.Fd
/- Plain mathematics of feeds: elements of other names; many items. -/
set_option linter.unusedVariables false
namespace Go.Proofs.YtflhmgnhjnaiiaaGreatDoor.Fd
open En Xm
/-! an entry with an id alone -/
def kPl (id : B) : B := opn sRss (opn sChan (opn sTitle (sF ++ cls sTitle (opn sItem (opn sGuid (id ++ cls sGuid (cls sItem (cls sChan (cls sRss []))))))))) 
def iPl (id : B) : List Tk := el sItem [] (el sGuid [] (tw id))
def cPl (id : B) : List Tk := el sChan [] (el sTitle [] (tw sF) ++ iPl id)
def mPl (id : B) : List Tk := el sRss [] (cPl id)
theorem pl_dn {id : B} (h1 : enc id = id) : Dn (kPl id) [] 0 (mPl id) := by
  have h := Dn.op1 (nm := sRss) (by decide) (Dn.opS (nm := sChan) (by decide) (by simp) (Dn.opS (nm := sTitle) (by decide) (by simp) (Dn.txS (x := sF) (by decide) (cls_hd _ _) (Dn.clS (nm := sTitle) (by decide)
    (Dn.opS (nm := sItem) (by decide) (by simp) (Dn.opS (nm := sGuid) (by decide) (by simp) (Dn.txS h1 (cls_hd _ _) (Dn.clS (nm := sGuid) (by decide)
    (Dn.clS (nm := sItem) (by decide) (Dn.clS (nm := sChan) (by decide) (Dn.clS (nm := sRss) (by decide) (Dn.nil (Nat.le_refl 1)))))))))))))
  exact dn_eq h (by simp [mPl, cPl, iPl, el])
theorem ent_gu {nm g : B} {as as2 : List Atr} {b : List Tk} {x y : B} (hp : parts (el nm as b) = [el g as2 (tw y)]) (hg : loc g = sGuid) (hx : tr y = x) : entR (el nm as b) = (x, [], [], [], 0) := by
  unfold entR
  rw [vOf_L hp, vOf_L hp, vOf_L hp, vOf_L hp]
  simp only [fstL_el, fstL_nil, hg]
  rw [if_pos (by decide), if_neg (by decide), if_neg (by decide), if_neg (by decide), val_el, val_nil, hx]
theorem pl_parts (id : B) : parts (iPl id) = [el sGuid [] (tw id)] ∧ parts (cPl id) = [el sTitle [] (tw sF), iPl id] ∧ parts (mPl id) = [cPl id] :=
  ⟨parts_el (pb_el (bal_tw id)), parts_el (pb_app (pb_el (bal_tw sF)) (pb_el (bal_el (bal_tw id)))), parts_el (pb_el (bal_app (bal_el (bal_tw sF)) (bal_el (bal_el (bal_tw id)))))⟩
theorem pl_rd (ps : B → Option Int) {id : B} (h1 : Wd' id) (a : id.length ≤ 40) : rdP ps (kPl id) = ((sF, [(id, [], [], [], 0)]), 0) := by
  have ht := (pl_dn (wd_enc h1)).tok (by
    unfold kPl opn cls sRss sChan sTitle sItem sGuid sF
    simp only [List.length_append, List.length_cons, List.length_nil]
    omega)
  obtain ⟨p1, p2, p3⟩ := pl_parts id
  have hent : entR (iPl id) = (id, [], [], [], 0) := ent_gu p1 (by decide) (wd_tr h1)
  unfold rdP
  rw [ht, if_pos rfl]
  unfold exP
  rw [if_pos (nested_of ht), show nm1 (mPl id) = sRss from rfl, if_pos rfl, p3, show named [sChan] [cPl id] = [cPl id] from by unfold cPl; rw [nmd_el, if_pos (by decide), nmd_nil]]
  simp only
  unfold bodyP
  rw [vOf_L p2, p2, fstL_el, if_pos (by decide), val_el, nmd_el, if_neg (by decide), show named [sItem] [iPl id] = [iPl id] from by unfold iPl; rw [nmd_el, if_pos (by decide), nmd_nil]]
  simp only [List.take_succ_cons, List.take_nil, List.map_cons, List.map_nil, hent]
  rw [show tr sF = sF from by decide]
  rfl
/-! the same, with other elements, blanks, prefixes and comments -/
def xRss : B := [120, 58, 114, 115, 115]
def yItem : B := [121, 58, 105, 116, 101, 109]
def qGuid : B := [113, 58, 103, 117, 105, 100]
def cmt (R : B) : B := [60, 33, 45, 45, 32, 105, 116, 101, 109, 32, 45, 45, 62] ++ R
theorem Dn.cm {R : B} {o : List B} {n : Nat} {l : List Tk} (k : Dn R o n l) : Dn (cmt R) o n l :=
  Dn.step (d := []) (by simp [cmt]) (fun acc => by
    unfold Xm.step cmt
    simp only [List.cons_append, List.nil_append, List.head?_cons]
    rw [if_neg (by decide), if_pos (by simp [pCom, List.isPrefixOf])]
    unfold passS
    simp [upt, List.isPrefixOf]) k
theorem cm_hd (R : B) : ∃ R', cmt R = 60 :: R' := ⟨_, rfl⟩
def pad (id : B) : B := [10] ++ id ++ [32]
def kMo (nm te id : B) : B := opn xRss ([10] ++ opn sChan (opn nm (te ++ cls nm ([32] ++ opn sTitle (sF ++ cls sTitle (cmt (opn yItem ([32] ++ opn qGuid (pad id ++ cls qGuid (cls yItem (cls sChan (cls xRss []))))))))))))
def iMo (id : B) : List Tk := el yItem [] (tw [32] ++ el qGuid [] (tw (pad id)))
def cMo (nm te id : B) : List Tk := el sChan [] (el nm [] (tw te) ++ (tw [32] ++ (el sTitle [] (tw sF) ++ iMo id)))
def mMo (nm te id : B) : List Tk := el xRss [] (tw [10] ++ cMo nm te id)
theorem wd_pad {id : B} (h : Wd' id) : enc (pad id) = pad id := enc_id (fun c hc => by
  unfold pad at hc
  simp only [List.cons_append, List.nil_append, List.mem_cons, List.mem_append, List.not_mem_nil, or_false] at hc
  rcases hc with rfl | hc | rfl
  · decide
  · have := h c hc
    refine ⟨?_, ?_, ?_, ?_⟩ <;> (rintro rfl; simp at this)
  · decide)
theorem trF_pad : ∀ (x : B) (s : Bool), (∀ c ∈ x, spB c = false) → trF s false (x ++ [32]) = x
  | [], s, _ => by
    rw [List.nil_append, trF_sp (by decide)]
    simp [trF]
  | c :: x, s, h => by
    rw [List.cons_append, trF_no (h c (by simp)), if_neg (by decide), trF_pad x true (fun d hd => h d (by simp [hd]))]; rfl
theorem tr_pad {x : B} (h : ∀ c ∈ x, spB c = false) : tr (pad x) = x := by
  unfold tr pad
  rw [List.append_assoc, List.singleton_append, trF_sp (by decide)]
  exact trF_pad x false h
theorem wd_nm {nm : B} (h : Wd' nm) (h0 : nm ≠ []) (hl : nm.length ≤ 40) : isN nm = true := by
  have key : ∀ c ∈ nm, ∀ b, sgn b c = true := fun c hc b => by
    have := h c hc
    unfold sgn
    simp; omega
  unfold isN
  have h1 := List.length_pos_iff.2 h0
  simp only [Bool.and_eq_true, decide_eq_true_eq]
  refine ⟨⟨by omega, by omega⟩, ?_⟩
  cases nm with
  | nil => exact absurd rfl h0
  | cons c r =>
    unfold allN
    simp only [Bool.and_eq_true, List.all_eq_true]
    exact ⟨key c (by simp) true, fun d hd => key d (by simp [hd]) false⟩
theorem locF_wd : ∀ (x cur : B), (∀ c ∈ x, c ≠ 58) → locF cur x = cur
  | [], cur, _ => rfl
  | c :: x, cur, h => by rw [locF, if_neg (h c (by simp)), locF_wd x cur (fun d hd => h d (by simp [hd]))]
theorem wd_loc {nm : B} (h : Wd' nm) : loc nm = nm := locF_wd nm nm (fun c hc e => by have := h c hc; rw [e] at this; simp at this)
theorem mo_dn {nm te id : B} (hn : isN nm = true) (h1 : enc te = te) (h2 : enc (pad id) = pad id) : Dn (kMo nm te id) [] 0 (mMo nm te id) := by
  have h := Dn.op1 (nm := xRss) (by decide) (Dn.txS (x := [10]) (by decide) (opn_hd _ _) (Dn.opS (nm := sChan) (by decide) (by simp) (Dn.opS (nm := nm) hn (by simp) (Dn.txS h1 (cls_hd _ _) (Dn.clS (nm := nm) hn
    (Dn.txS (x := [32]) (by decide) (opn_hd _ _) (Dn.opS (nm := sTitle) (by decide) (by simp) (Dn.txS (x := sF) (by decide) (cls_hd _ _) (Dn.clS (nm := sTitle) (by decide)
    (Dn.cm (Dn.opS (nm := yItem) (by decide) (by simp) (Dn.txS (x := [32]) (by decide) (opn_hd _ _) (Dn.opS (nm := qGuid) (by decide) (by simp) (Dn.txS h2 (cls_hd _ _) (Dn.clS (nm := qGuid) (by decide)
    (Dn.clS (nm := yItem) (by decide) (Dn.clS (nm := sChan) (by decide) (Dn.clS (nm := xRss) (by decide) (Dn.nil (Nat.le_refl 1))))))))))))))))))))
  exact dn_eq h (by simp [mMo, cMo, iMo, el])
theorem mo_parts (nm te id : B) : parts (iMo id) = [el qGuid [] (tw (pad id))] ∧ parts (cMo nm te id) = [el nm [] (tw te), el sTitle [] (tw sF), iMo id] ∧ parts (mMo nm te id) = [cMo nm te id] := by
  have hi : Bal (tw [32] ++ el qGuid [] (tw (pad id))) := bal_app (bal_tw _) (bal_el (bal_tw _))
  have hc : Bal (el nm [] (tw te) ++ (tw [32] ++ (el sTitle [] (tw sF) ++ iMo id))) := bal_app (bal_el (bal_tw _)) (bal_app (bal_tw _) (bal_app (bal_el (bal_tw _)) (bal_el hi)))
  refine ⟨parts_el ?_, parts_el ?_, parts_el ?_⟩
  · exact pb_app (ps := []) (pb_tw _) (pb_el (bal_tw _))
  · exact pb_app (pb_el (bal_tw te)) (pb_app (ps := []) (pb_tw _) (pb_app (pb_el (bal_tw sF)) (pb_el hi)))
  · exact pb_app (ps := []) (pb_tw _) (pb_el hc)
theorem mo_rd (ps : B → Option Int) {nm te id : B} (hn : Wd' nm) (hn0 : nm ≠ []) (hn1 : nm ≠ sItem) (hn2 : nm ≠ sTitle) (h1 : Wd' te) (h2 : Wd' id) (a : nm.length ≤ 40) (b : te.length ≤ 40) (c : id.length ≤ 40) : rdP ps (kMo nm te id) = ((sF, [(id, [], [], [], 0)]), 0) := by
  have ht := (mo_dn (wd_nm hn hn0 a) (wd_enc h1) (wd_pad h2)).tok (by
    unfold kMo cmt pad opn cls xRss sChan sTitle yItem qGuid sF
    simp only [List.length_append, List.length_cons, List.length_nil]
    omega)
  obtain ⟨p1, p2, p3⟩ := mo_parts nm te id
  have hent : entR (iMo id) = (id, [], [], [], 0) := ent_gu p1 (by decide) (tr_pad (wd_sp h2))
  have hl := wd_loc hn
  have m1 : ¬ [sTitle].contains (loc nm) = true := by rw [hl]; simpa using hn2
  have m2 : ¬ [sItem].contains (loc nm) = true := by rw [hl]; simpa using hn1
  unfold rdP
  rw [ht, if_pos rfl]
  unfold exP
  rw [if_pos (nested_of ht), show nm1 (mMo nm te id) = sRss from show loc xRss = sRss by decide, if_pos rfl, p3, show named [sChan] [cMo nm te id] = [cMo nm te id] from by unfold cMo; rw [nmd_el, if_pos (by decide), nmd_nil]]
  simp only
  unfold bodyP
  rw [vOf_L p2, p2, fstL_el, if_neg m1, fstL_el, if_pos (by decide), val_el, nmd_el, if_neg m2, nmd_el, if_neg (by decide), show named [sItem] [iMo id] = [iMo id] from by unfold iMo; rw [nmd_el, if_pos (by decide), nmd_nil]]
  simp only [List.take_succ_cons, List.take_nil, List.map_cons, List.map_nil, hent]
  rw [show tr sF = sF from by decide]
  rfl
end Go.Proofs.YtflhmgnhjnaiiaaGreatDoor.Fd
