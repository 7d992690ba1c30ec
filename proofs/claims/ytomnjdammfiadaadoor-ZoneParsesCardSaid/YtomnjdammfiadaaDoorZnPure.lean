/- Plain mathematics of zones and of their texts (no program in it). -/
import Derived.Lib.ItoaNum
import Derived.RowKit
namespace Go.Proofs.YtomnjdammfiadaaDoor.Zn

/-! Signs. -/
def ltr (c : UInt8) : Bool := decide (65 ≤ c.toNat ∧ c.toNat ≤ 90 ∨ 97 ≤ c.toNat ∧ c.toNat ≤ 122)
def dgt (c : UInt8) : Bool := decide (48 ≤ c.toNat ∧ c.toNat ≤ 57)
def nmb (c : UInt8) : Bool := decide (65 ≤ c.toNat ∧ c.toNat ≤ 90 ∨ 97 ≤ c.toNat ∧ c.toNat ≤ 122 ∨ 48 ≤ c.toNat ∧ c.toNat ≤ 57 ∨ c.toNat = 43 ∨ c.toNat = 45)
structure Ru where
  k : Int
  m : Int
  w : Int
  d : Int
  a : Int
structure Zo where
  std : List UInt8
  off : Int
  has : Bool
  dst : List UInt8
  ahead : Int
  fr : Ru
  to : Ru
def ru0 : Ru := ⟨0, 0, 0, 0, 0⟩
def mayN (l : List UInt8) : Bool := decide (3 ≤ l.length ∧ l.length ≤ 10) && l.all nmb
def mayR (r : Ru) : Bool := decide (-604799 ≤ r.a ∧ r.a ≤ 604799 ∧ (r.k = 0 ∧ 1 ≤ r.d ∧ r.d ≤ 365 ∧ r.m = 0 ∧ r.w = 0 ∨ r.k = 1 ∧ 0 ≤ r.d ∧ r.d ≤ 365 ∧ r.m = 0 ∧ r.w = 0 ∨ r.k = 2 ∧ 1 ≤ r.m ∧ r.m ≤ 12 ∧ 1 ≤ r.w ∧ r.w ≤ 5 ∧ 0 ≤ r.d ∧ r.d ≤ 6))
def offB (n : Int) : Bool := decide (-89999 ≤ n ∧ n ≤ 89999)
def mayZ (z : Zo) : Bool := mayN z.std && offB z.off && (if z.has then mayN z.dst && (decide (z.ahead = z.off + 3600) || offB z.ahead) && mayR z.fr && mayR z.to else decide (z.dst = [] ∧ z.ahead = 0 ∧ z.fr.k = 0 ∧ z.fr.m = 0 ∧ z.fr.w = 0 ∧ z.fr.d = 0 ∧ z.fr.a = 0 ∧ z.to.k = 0 ∧ z.to.m = 0 ∧ z.to.w = 0 ∧ z.to.d = 0 ∧ z.to.a = 0))

/-! Texts. -/
def dec (n : Int) : List UInt8 := Lib.decDigits n.toNat
def d2 (n : Nat) : List UInt8 := [UInt8.ofNat (48 + n / 10), UInt8.ofNat (48 + n % 10)]
def ttM (u : Nat) : List UInt8 := if u % 3600 = 0 then [] else 58 :: d2 (u % 3600 / 60)
def ttS (u : Nat) : List UInt8 := if u % 60 = 0 then [] else 58 :: d2 (u % 60)
def ttU (u : Nat) : List UInt8 := Lib.decDigits (u / 3600) ++ ttM u ++ ttS u
def tt (n : Int) : List UInt8 := if n < 0 then 45 :: ttU n.natAbs else ttU n.natAbs
def nt (l : List UInt8) : List UInt8 := if l.all ltr then l else 60 :: (l ++ [62])
def rtK (r : Ru) : List UInt8 := if r.k = 0 then [74] else if r.k = 2 then 77 :: (dec r.m ++ 46 :: (dec r.w ++ [46])) else []
def rtA (r : Ru) : List UInt8 := if r.a = 7200 then [] else 47 :: tt r.a
def rt (r : Ru) : List UInt8 := 44 :: (rtK r ++ dec r.d ++ rtA r)
def wtA (z : Zo) : List UInt8 := if z.ahead = z.off + 3600 then [] else tt (-z.ahead)
def wt (z : Zo) : List UInt8 := if z.has then nt z.std ++ tt (-z.off) ++ nt z.dst ++ wtA z ++ rt z.fr ++ rt z.to else nt z.std ++ tt (-z.off)

/-! The program's reader. -/
def wr (n : Int) : Int := Go.RowKit.wrap64 n
theorem wr_in {n : Int} (h1 : -9223372036854775808 ≤ n) (h2 : n ≤ 9223372036854775807) : wr n = n := by unfold wr Go.RowKit.wrap64; omega
def numV (l : List UInt8) : Int := l.foldl (fun n c => wr (wr (n * 10) + ((c.toNat : Int) - 48))) 0
def num (l : List UInt8) : Int × List UInt8 := (numV (l.takeWhile dgt), l.dropWhile dgt)
def skp (c : UInt8) : List UInt8 → Bool × List UInt8
  | [] => (false, [])
  | b :: r => if b = c then (true, r) else (false, b :: r)
def timM (s : Int) (l : List UInt8) : Int × List UInt8 := match skp 58 l with
  | (true, r) => (wr (s + wr ((num r).1 * 60)), (num r).2)
  | (false, r) => (s, r)
def timS (s : Int) (l : List UInt8) : Int × List UInt8 := match skp 58 l with
  | (true, r) => (wr (s + (num r).1), (num r).2)
  | (false, r) => (s, r)
def timU (l : List UInt8) : Int × List UInt8 := timS (timM (wr ((num l).1 * 3600)) (num l).2).1 (timM (wr ((num l).1 * 3600)) (num l).2).2
def tim (l : List UInt8) : Int × List UInt8 := match skp 45 l with
  | (true, r) => (wr (-(timU r).1), (timU r).2)
  | (false, r) => timU r
def nam (l : List UInt8) : List UInt8 × List UInt8 := match skp 60 l with
  | (true, r) => (r.takeWhile nmb, (skp 62 (r.dropWhile nmb)).2)
  | (false, r) => (r.takeWhile ltr, r.dropWhile ltr)
/-- kind, month, week, and what is left -/
def rulK (l : List UInt8) : (Int × Int × Int) × List UInt8 := match skp 74 l with
  | (true, r) => ((0, 0, 0), r)
  | (false, r) => match skp 77 r with
    | (true, q) => ((2, (num q).1, (num (skp 46 (num q).2).2).1), (skp 46 (num (skp 46 (num q).2).2).2).2)
    | (false, q) => ((1, 0, 0), q)
def rulA (l : List UInt8) : Int × List UInt8 := match skp 47 l with
  | (true, r) => tim r
  | (false, r) => (7200, r)
def rul (l : List UInt8) : Ru × List UInt8 :=
  let k := rulK (skp 44 l).2
  let n := num k.2
  let a := rulA n.2
  (⟨k.1.1, k.1.2.1, k.1.2.2, n.1, a.1⟩, a.2)
def redA (off : Int) (l : List UInt8) : Int × List UInt8 := if l.head? = some 44 then (wr (off + 3600), l) else (wr (-(tim l).1), (tim l).2)
def red (l : List UInt8) : Zo :=
  let n := nam l
  let t := tim n.2
  let off := wr (-t.1)
  if t.2 = [] then ⟨n.1, off, false, [], 0, ru0, ru0⟩ else
  let m := nam t.2
  let a := redA off m.2
  let f := rul a.2
  let g := rul f.2
  ⟨n.1, off, true, m.1, a.1, f.1, g.1⟩

/-! What is written is read. -/
def stp (p : UInt8 → Bool) : List UInt8 → Bool
  | [] => true
  | c :: _ => !p c
theorem tw {p : UInt8 → Bool} {a b : List UInt8} (ha : a.all p = true) (hb : stp p b = true) : (a ++ b).takeWhile p = a ∧ (a ++ b).dropWhile p = b := by
  have hb' : b.takeWhile p = [] ∧ b.dropWhile p = b := by
    cases b with
    | nil => simp
    | cons c r => simp [stp] at hb; simp [hb]
  have h : ∀ x ∈ a, p x = true := by simpa using ha
  rw [List.takeWhile_append_of_pos h, List.dropWhile_append_of_pos h, hb'.1, hb'.2]
  simp
theorem ofNat_toNat {k : Nat} (h : k < 256) : (UInt8.ofNat k).toNat = k := by simp; omega
theorem dgt_of {k : Nat} (h : k < 10) : dgt (UInt8.ofNat (48 + k)) = true := by
  unfold dgt; rw [ofNat_toNat (by omega)]; simp; omega
theorem dec_all (n : Nat) : (Lib.decDigits n).all dgt = true := by
  induction n using Nat.strongRecOn with
  | _ n ih =>
    rw [Lib.decDigits]
    split
    · rename_i h; simp only [List.all_cons, List.all_nil, dgt_of h, Bool.and_self]
    · rename_i h
      rw [List.all_append, ih (n / 10) (by omega)]
      simp only [List.all_cons, List.all_nil, dgt_of (show n % 10 < 10 by omega), Bool.and_self]
theorem numV_snoc (l : List UInt8) (c : UInt8) : numV (l ++ [c]) = wr (wr (numV l * 10) + ((c.toNat : Int) - 48)) := by
  simp [numV]
theorem numV_dec (n : Nat) (h : n < 1000000000) : numV (Lib.decDigits n) = n := by
  induction n using Nat.strongRecOn with
  | _ n ih =>
    rw [Lib.decDigits]
    split
    · rename_i hl
      show wr (wr (0 * 10) + _) = _
      rw [ofNat_toNat (by omega), wr_in (n := 0 * 10) (by omega) (by omega), wr_in (by omega) (by omega)]; omega
    · rename_i hl
      rw [numV_snoc, ih (n / 10) (by omega) (by omega), ofNat_toNat (by omega), wr_in (n := _ * 10) (by omega) (by omega), wr_in (by omega) (by omega)]; omega
theorem numV_d2 (n : Nat) (h : n < 100) : numV (d2 n) = n := by
  show wr (wr (wr (wr (0 * 10) + _) * 10) + _) = _
  rw [ofNat_toNat (by omega), ofNat_toNat (by omega), wr_in (n := 0 * 10) (by omega) (by omega), wr_in (n := 0 * 10 + _) (by omega) (by omega), wr_in (n := _ * 10) (by omega) (by omega), wr_in (by omega) (by omega)]; omega
theorem d2_all (n : Nat) (h : n < 100) : (d2 n).all dgt = true := by
  simp only [d2, List.all_cons, List.all_nil, dgt_of (show n / 10 < 10 by omega), dgt_of (show n % 10 < 10 by omega), Bool.and_self]
theorem num_dec (n : Nat) (h : n < 1000000000) (b : List UInt8) (hb : stp dgt b = true) : num (Lib.decDigits n ++ b) = ((n : Int), b) := by
  unfold num; rw [(tw (dec_all n) hb).1, (tw (dec_all n) hb).2, numV_dec n h]
theorem num_d2 (n : Nat) (h : n < 100) (b : List UInt8) (hb : stp dgt b = true) : num (d2 n ++ b) = ((n : Int), b) := by
  unfold num; rw [(tw (d2_all n h) hb).1, (tw (d2_all n h) hb).2, numV_d2 n h]
theorem skp_yes (c : UInt8) (r : List UInt8) : skp c (c :: r) = (true, r) := by simp [skp]
theorem skp_no {c : UInt8} {l : List UInt8} (h : stp (· == c) l = true) : skp c l = (false, l) := by
  cases l with
  | nil => rfl
  | cons b r => simp [stp] at h; simp [skp, h]
theorem dec_cons (n : Nat) : ∃ c r, Lib.decDigits n = c :: r ∧ dgt c = true := by
  have h := dec_all n
  cases hd : Lib.decDigits n with
  | nil =>
    rw [Lib.decDigits] at hd
    split at hd <;> simp at hd
  | cons c r => rw [hd] at h; simp at h; exact ⟨c, r, rfl, h.1⟩
theorem stp_dec {p : UInt8 → Bool} (h : ∀ c, dgt c = true → p c = false) (n : Nat) (b : List UInt8) : stp p (Lib.decDigits n ++ b) = true := by
  obtain ⟨c, r, e, hc⟩ := dec_cons n
  rw [e]; simp [stp, h c hc]
theorem dgt_ne {c k : UInt8} (hk : dgt k = false) (h : dgt c = true) : (c == k) = false := by
  simp; rintro rfl; rw [h] at hk; cases hk
theorem ltr_ne {c k : UInt8} (hk : ltr k = false) (h : ltr c = true) : (c == k) = false := by
  simp; rintro rfl; rw [h] at hk; cases hk
theorem timU_tt (u : Nat) (h : u < 1000000) (b : List UInt8) (h1 : stp dgt b = true) (h2 : stp (· == 58) b = true) : timU (ttU u ++ b) = ((u : Int), b) := by
  have hq : u / 3600 < 1000000000 := by omega
  unfold ttU ttM ttS
  by_cases a : u % 3600 = 0
  · have a2 : u % 60 = 0 := by omega
    rw [if_pos a, if_pos a2]
    simp only [List.append_nil]
    unfold timU
    rw [num_dec _ hq b h1]
    simp only
    rw [show timM (wr (((u / 3600 : Nat) : Int) * 3600)) b = (wr (((u / 3600 : Nat) : Int) * 3600), b) by unfold timM; rw [skp_no h2]]
    simp only
    rw [show timS (wr (((u / 3600 : Nat) : Int) * 3600)) b = (wr (((u / 3600 : Nat) : Int) * 3600), b) by unfold timS; rw [skp_no h2]]
    rw [wr_in (by omega) (by omega)]
    exact Prod.ext (by simp only; omega) rfl
  · rw [if_neg a]
    by_cases a2 : u % 60 = 0
    · rw [if_pos a2]
      simp only [List.append_nil, List.append_assoc, List.cons_append]
      unfold timU
      rw [num_dec _ hq _ (by simp [stp]; decide)]
      simp only
      rw [show timM (wr (((u / 3600 : Nat) : Int) * 3600)) (58 :: (d2 (u % 3600 / 60) ++ b)) = (wr (wr (((u / 3600 : Nat) : Int) * 3600) + wr (((u % 3600 / 60 : Nat) : Int) * 60)), b) by unfold timM; rw [skp_yes]; simp only; rw [num_d2 _ (by omega) _ h1]]
      simp only
      unfold timS; rw [skp_no h2]
      simp only
      rw [wr_in (n := _ * 3600) (by omega) (by omega), wr_in (n := _ * 60) (by omega) (by omega), wr_in (by omega) (by omega)]
      exact Prod.ext (by simp only; omega) rfl
    · rw [if_neg a2]
      simp only [List.append_assoc, List.cons_append]
      unfold timU
      rw [num_dec _ hq _ (by simp [stp]; decide)]
      simp only
      rw [show timM (wr (((u / 3600 : Nat) : Int) * 3600)) (58 :: (d2 (u % 3600 / 60) ++ 58 :: (d2 (u % 60) ++ b))) = (wr (wr (((u / 3600 : Nat) : Int) * 3600) + wr (((u % 3600 / 60 : Nat) : Int) * 60)), 58 :: (d2 (u % 60) ++ b)) by unfold timM; rw [skp_yes]; simp only; rw [num_d2 _ (by omega) _ (by simp [stp]; decide)]]
      simp only
      unfold timS; rw [skp_yes]
      simp only
      rw [num_d2 _ (by omega) _ h1]
      simp only
      rw [wr_in (n := _ * 3600) (by omega) (by omega), wr_in (n := _ * 60) (by omega) (by omega), wr_in (n := _ + _ * 60) (by omega) (by omega), wr_in (by omega) (by omega)]
      exact Prod.ext (by simp only; omega) rfl
theorem tim_tt (n : Int) (h1 : -1000000 < n) (h2 : n < 1000000) (b : List UInt8) (hb : stp dgt b = true) (hc : stp (· == 58) b = true) : tim (tt n ++ b) = (n, b) := by
  unfold tt
  by_cases hn : n < 0
  · rw [if_pos hn]
    unfold tim
    rw [List.cons_append, skp_yes]
    simp only
    rw [timU_tt _ (by omega) b hb hc, wr_in (by simp only; omega) (by simp only; omega)]
    exact Prod.ext (by simp only; omega) rfl
  · rw [if_neg hn]
    unfold tim
    rw [skp_no (by unfold ttU; rw [List.append_assoc, List.append_assoc]; exact stp_dec (fun c hc => dgt_ne (by decide) hc) _ _)]
    simp only
    rw [timU_tt _ (by omega) b hb hc]
    exact Prod.ext (by simp only; omega) rfl
theorem stp_nt {p : UInt8 → Bool} {l : List UInt8} (h : mayN l = true) (hl : ∀ c, ltr c = true → p c = false) (h60 : p 60 = false) (b : List UInt8) : stp p (nt l ++ b) = true := by
  unfold nt
  split
  · rename_i ha
    cases l with
    | nil => simp [mayN] at h
    | cons c r => simp at ha; simp [stp, hl c ha.1]
  · simp [stp, h60]
theorem nam_nt {l : List UInt8} (h : mayN l = true) (b : List UInt8) (hb : stp ltr b = true) : nam (nt l ++ b) = (l, b) := by
  unfold nt
  by_cases ha : l.all ltr = true
  · rw [if_pos ha]
    unfold nam
    have hs : stp (· == 60) (l ++ b) = true := by
      cases l with
      | nil => simp [mayN] at h
      | cons c r => simp at ha; simp only [List.cons_append, stp, ltr_ne (k := 60) (by decide) ha.1]; rfl
    rw [skp_no hs]
    simp only
    rw [(tw ha hb).1, (tw ha hb).2]
  · rw [if_neg ha]
    unfold nam
    rw [List.cons_append, skp_yes]
    simp only [List.append_assoc]
    have hl : l.all nmb = true := by unfold mayN at h; rw [Bool.and_eq_true] at h; exact h.2
    have hs : stp nmb ([62] ++ b) = true := by simp [stp]; decide
    rw [(tw hl hs).1, (tw hl hs).2]
    show (l, (skp 62 (62 :: b)).2) = _
    rw [skp_yes]
/-- what may stand behind a rule -/
def fin : List UInt8 → Bool
  | [] => true
  | c :: _ => c == 44
theorem fin_stp {b : List UInt8} (h : fin b = true) {p : UInt8 → Bool} (hp : p 44 = false) : stp p b = true := by
  cases b with
  | nil => rfl
  | cons c r => simp [fin] at h; subst h; simp [stp, hp]
theorem dec_lt {n : Int} (h : n < 1000000) : n.toNat < 1000000000 := by omega
theorem rul_rt {r : Ru} (h : mayR r = true) (b : List UInt8) (hb : fin b = true) : rul (rt r ++ b) = (r, b) := by
  have hb1 := fin_stp hb (p := dgt) (by decide)
  have hb2 := fin_stp hb (p := (· == 58)) (by decide)
  have hb3 := fin_stp hb (p := (· == 47)) (by decide)
  obtain ⟨k, m, w, d, a⟩ := r
  simp only [mayR, decide_eq_true_eq] at h
  obtain ⟨a1, a2, h⟩ := h
  have hA : rulA (rtA ⟨k, m, w, d, a⟩ ++ b) = (a, b) := by
    unfold rtA rulA
    by_cases e : a = 7200
    · rw [if_pos e, List.nil_append, skp_no hb3]; exact Prod.ext e.symm rfl
    · rw [if_neg e, List.cons_append, skp_yes]; exact tim_tt a (by omega) (by omega) b hb1 hb2
  have hAs : stp dgt (rtA ⟨k, m, w, d, a⟩ ++ b) = true := by
    unfold rtA; split
    · exact hb1
    · simp [stp]; decide
  have hD : 0 ≤ d → d ≤ 365 → num (dec d ++ (rtA ⟨k, m, w, d, a⟩ ++ b)) = (d, rtA ⟨k, m, w, d, a⟩ ++ b) := by
    intro d1 d2
    unfold dec; rw [num_dec _ (by omega) _ hAs]; exact Prod.ext (by simp only; omega) rfl
  have hfin : ∀ (x y : Int) , rulK (rtK ⟨k, m, w, d, a⟩ ++ (dec d ++ (rtA ⟨k, m, w, d, a⟩ ++ b))) = ((k, x, y), dec d ++ (rtA ⟨k, m, w, d, a⟩ ++ b)) → x = m → y = w → 0 ≤ d → d ≤ 365 → rul (rt ⟨k, m, w, d, a⟩ ++ b) = (⟨k, m, w, d, a⟩, b) := by
    intro x y hK hx hy d1 d2
    subst hx; subst hy
    unfold rul rt
    simp only [List.cons_append, skp_yes, List.append_assoc]
    rw [hK]
    simp only
    rw [hD d1 d2]
    simp only
    rw [hA]
  rcases h with ⟨rfl, d1, d2, rfl, rfl⟩ | ⟨rfl, d1, d2, rfl, rfl⟩ | ⟨rfl, m1, m2, w1, w2, d1, d2⟩
  · refine hfin 0 0 ?_ rfl rfl (by omega) d2
    unfold rtK rulK
    rw [if_pos rfl, List.cons_append, skp_yes]; rfl
  · refine hfin 0 0 ?_ rfl rfl d1 d2
    unfold rtK rulK
    simp only
    rw [if_neg (by omega), if_neg (by omega), List.nil_append]
    rw [skp_no (by unfold dec; exact stp_dec (fun c hc => dgt_ne (by decide) hc) _ _)]
    simp only
    rw [skp_no (by unfold dec; exact stp_dec (fun c hc => dgt_ne (by decide) hc) _ _)]
  · refine hfin m w ?_ rfl rfl d1 (by omega)
    unfold rtK rulK
    simp only
    rw [if_neg (by omega), if_pos trivial]
    simp only [List.cons_append, List.append_assoc, List.nil_append]
    rw [skp_no (by simp [stp])]
    simp only
    rw [skp_yes]
    simp only
    have e1 : num (dec m ++ 46 :: (dec w ++ 46 :: (dec d ++ (rtA ⟨2, m, w, d, a⟩ ++ b)))) = (m, 46 :: (dec w ++ 46 :: (dec d ++ (rtA ⟨2, m, w, d, a⟩ ++ b)))) := by
      conv => lhs; unfold dec
      rw [num_dec _ (by omega) _ (by simp [stp]; decide)]
      exact Prod.ext (by simp only; omega) rfl
    rw [e1]
    simp only
    rw [skp_yes]
    simp only
    have e2 : num (dec w ++ 46 :: (dec d ++ (rtA ⟨2, m, w, d, a⟩ ++ b))) = (w, 46 :: (dec d ++ (rtA ⟨2, m, w, d, a⟩ ++ b))) := by
      conv => lhs; unfold dec
      rw [num_dec _ (by omega) _ (by simp [stp]; decide)]
      exact Prod.ext (by simp only; omega) rfl
    rw [e2]
    simp only
    rw [skp_yes]
theorem off_bd {n : Int} (h : offB n = true) : -89999 ≤ n ∧ n ≤ 89999 := by simpa [offB] using h
theorem tt_stp {p : UInt8 → Bool} (h : ∀ c, dgt c = true → p c = false) (h45 : p 45 = false) (n : Int) (b : List UInt8) : stp p (tt n ++ b) = true := by
  unfold tt; split
  · simp [stp, h45]
  · unfold ttU; rw [List.append_assoc, List.append_assoc]; exact stp_dec h _ _
theorem rt_cons (r : Ru) : ∃ l, rt r = 44 :: l := ⟨_, rfl⟩
theorem head_of_stp {l : List UInt8} {c : UInt8} (h : stp (· == c) l = true) : l.head? ≠ some c := by
  cases l with
  | nil => simp
  | cons b r => simp [stp] at h; simpa using h
theorem dgt_ltr {c : UInt8} (h : dgt c = true) : ltr c = false := by
  simp only [dgt, ltr, decide_eq_true_eq, decide_eq_false_iff_not] at *; omega
theorem ltr_dgt {c : UInt8} (h : ltr c = true) : dgt c = false := by
  simp only [dgt, ltr, decide_eq_true_eq, decide_eq_false_iff_not] at *; omega
theorem red_wt {z : Zo} (h : mayZ z = true) : red (wt z) = z := by
  obtain ⟨std, off, has, dst, ahead, fr, to⟩ := z
  unfold mayZ at h
  simp only [Bool.and_eq_true] at h
  obtain ⟨⟨h1, h2⟩, h3⟩ := h
  obtain ⟨o1, o2⟩ := off_bd h2
  have hdl : ∀ c, dgt c = true → ltr c = false := fun c hc => dgt_ltr hc
  cases has with
  | false =>
    simp only [Bool.false_eq_true, if_false, decide_eq_true_eq] at h3
    obtain ⟨rfl, rfl, a1, a2, a3, a4, a5, b1, b2, b3, b4, b5⟩ := h3
    obtain ⟨fk, fm, fw, fd, fa⟩ := fr
    obtain ⟨tk, tm, tw, td, ta⟩ := to
    simp only at a1 a2 a3 a4 a5 b1 b2 b3 b4 b5
    subst a1; subst a2; subst a3; subst a4; subst a5; subst b1; subst b2; subst b3; subst b4; subst b5
    unfold red wt
    simp only [Bool.false_eq_true, if_false]
    rw [nam_nt h1 _ (by rw [← List.append_nil (tt _)]; exact tt_stp hdl (by decide) _ _)]
    simp only
    have := tim_tt (-off) (by omega) (by omega) [] rfl rfl
    rw [List.append_nil] at this
    rw [this]
    simp only [if_true]
    rw [wr_in (by omega) (by omega)]
    simp [ru0]
  | true =>
    simp only [if_true, Bool.and_eq_true] at h3
    obtain ⟨⟨⟨h4, h5⟩, h6⟩, h7⟩ := h3
    have hR2 : rul (rt to) = (to, []) := by have := rul_rt h7 [] rfl; rwa [List.append_nil] at this
    have hR1 : rul (rt fr ++ rt to) = (fr, rt to) := rul_rt h6 _ rfl
    have hA : ∀ wa, wtA ⟨std, off, true, dst, ahead, fr, to⟩ = wa → redA off (wa ++ (rt fr ++ rt to)) = (ahead, rt fr ++ rt to) := by
      rintro wa rfl
      unfold wtA redA
      by_cases e : ahead = off + 3600
      · rw [if_pos e, List.nil_append, if_pos (by rfl), wr_in (by omega) (by omega), e]
      · have e2 : offB ahead = true := by simpa [e] using h5
        obtain ⟨p1, p2⟩ := off_bd e2
        rw [if_neg e, if_neg (head_of_stp (tt_stp (fun c hc => dgt_ne (by decide) hc) (by decide) _ _)), tim_tt (-ahead) (by omega) (by omega) _ (fin_stp rfl (by decide)) (fin_stp rfl (by decide)), wr_in (by simp only; omega) (by simp only; omega)]
        exact Prod.ext (by simp only; omega) rfl
    have hAs : stp ltr (wtA ⟨std, off, true, dst, ahead, fr, to⟩ ++ (rt fr ++ rt to)) = true := by
      unfold wtA; split
      · exact fin_stp rfl (by decide)
      · exact tt_stp hdl (by decide) _ _
    unfold red wt
    simp only [if_true, List.append_assoc]
    rw [nam_nt h1 _ (tt_stp hdl (by decide) _ _)]
    simp only
    rw [tim_tt (-off) (by omega) (by omega) _ (stp_nt h4 (fun c hc => ltr_dgt hc) (by decide) _) (stp_nt h4 (fun c hc => ltr_ne (by decide) hc) (by decide) _)]
    simp only
    rw [nam_nt h4 _ hAs]
    simp only
    rw [wr_in (n := - -off) (by omega) (by omega), show - -off = off by omega, hA _ rfl]
    simp only
    rw [hR1]
    simp only
    rw [hR2]
    simp only
    rw [if_neg]
    unfold nt
    split
    · cases dst with
      | nil => simp [mayN] at h4
      | cons c r => simp
    · simp
end Go.Proofs.YtomnjdammfiadaaDoor.Zn
