/- Plain mathematics of the document's reader of zones (no program in it). -/
import Derived.Test.YtomnjdammfiadaaDoorZnPure
namespace Go.Proofs.YtomnjdammfiadaaDoor.Zn
def nv (l : List UInt8) : Int := l.foldl (fun n c => 10 * n + ((c.toNat : Int) - 48)) 0
/-- at most six digits: the number, what is left, whether there was none -/
def numR (l : List UInt8) : Int × List UInt8 × Bool := (nv ((l.takeWhile dgt).take 6), l.drop ((l.takeWhile dgt).take 6).length, ((l.takeWhile dgt).take 6).isEmpty)
def timRs (n : Int) (l : List UInt8) (b : Bool) : Int × List UInt8 × Bool := match skp 58 l with
  | (true, r) => (n + (numR r).1, (numR r).2.1, b || (numR r).2.2)
  | (false, r) => (n, r, b)
def timRm (n : Int) (l : List UInt8) (b : Bool) : Int × List UInt8 × Bool := match skp 58 l with
  | (true, r) => timRs (n + 60 * (numR r).1) (numR r).2.1 (b || (numR r).2.2)
  | (false, r) => (n, r, b)
def timRu (l : List UInt8) : Int × List UInt8 × Bool := timRm (3600 * (numR l).1) (numR l).2.1 (numR l).2.2
def timR (l : List UInt8) : Int × List UInt8 × Bool := match skp 45 l with
  | (true, r) => (-(timRu r).1, (timRu r).2.1, (timRu r).2.2)
  | (false, r) => timRu r
def ngt (c : UInt8) : Bool := c != 62
def namR (l : List UInt8) : List UInt8 × List UInt8 × Bool := match skp 60 l with
  | (true, r) => (r.takeWhile ngt, (skp 62 (r.dropWhile ngt)).2, !(skp 62 (r.dropWhile ngt)).1)
  | (false, r) => (r.takeWhile ltr, r.dropWhile ltr, false)

theorem nv_snoc (l : List UInt8) (c : UInt8) : nv (l ++ [c]) = 10 * nv l + ((c.toNat : Int) - 48) := by simp [nv]
theorem nv_dec (n : Nat) : nv (Lib.decDigits n) = n := by
  induction n using Nat.strongRecOn with
  | _ n ih =>
    rw [Lib.decDigits]
    split
    · rename_i hl
      show 10 * 0 + _ = _
      rw [ofNat_toNat (by omega)]; omega
    · rename_i hl
      rw [nv_snoc, ih (n / 10) (by omega), ofNat_toNat (by omega)]; omega
theorem nv_d2 (n : Nat) (h : n < 100) : nv (d2 n) = n := by
  show 10 * (10 * 0 + _) + _ = _
  rw [ofNat_toNat (by omega), ofNat_toNat (by omega)]; omega
theorem dec_len6 (n : Nat) (h : n < 1000) : (Lib.decDigits n).length ≤ 6 := by
  rw [Lib.decDigits]
  split
  · simp
  · rw [List.length_append, Lib.decDigits]
    split
    · simp
    · rw [List.length_append, Lib.decDigits_one (by omega)]; simp
theorem numR_of {a b : List UInt8} (ha : a.all dgt = true) (hb : stp dgt b = true) (hl : a.length ≤ 6) (h0 : a ≠ []) : numR (a ++ b) = (nv a, b, false) := by
  unfold numR
  rw [(tw ha hb).1, List.take_of_length_le hl]
  refine Prod.ext rfl (Prod.ext ?_ ?_)
  · show (a ++ b).drop a.length = b
    simp
  · show a.isEmpty = false
    cases a with
    | nil => exact absurd rfl h0
    | cons c r => rfl
theorem numR_dec (n : Nat) (h : n < 1000) (b : List UInt8) (hb : stp dgt b = true) : numR (Lib.decDigits n ++ b) = ((n : Int), b, false) := by
  rw [numR_of (dec_all n) hb (dec_len6 n h) (by obtain ⟨c, r, e, _⟩ := dec_cons n; rw [e]; simp), nv_dec]
theorem numR_d2 (n : Nat) (h : n < 100) (b : List UInt8) (hb : stp dgt b = true) : numR (d2 n ++ b) = ((n : Int), b, false) := by
  rw [numR_of (d2_all n h) hb (by simp [d2]) (by simp [d2]), nv_d2 n h]
theorem timRu_tt (u : Nat) (h : u < 1000000) (b : List UInt8) (h1 : stp dgt b = true) (h2 : stp (· == 58) b = true) : timRu (ttU u ++ b) = ((u : Int), b, false) := by
  have hq : u / 3600 < 1000 := by omega
  unfold ttU ttM ttS
  by_cases a : u % 3600 = 0
  · have a2 : u % 60 = 0 := by omega
    rw [if_pos a, if_pos a2]
    simp only [List.append_nil]
    unfold timRu
    rw [numR_dec _ hq b h1]
    simp only
    unfold timRm
    rw [skp_no h2]
    exact Prod.ext (by simp only; omega) rfl
  · rw [if_neg a]
    by_cases a2 : u % 60 = 0
    · rw [if_pos a2]
      simp only [List.append_nil, List.append_assoc, List.cons_append]
      unfold timRu
      rw [numR_dec _ hq _ (by simp [stp]; decide)]
      simp only
      unfold timRm
      rw [skp_yes]
      simp only
      rw [numR_d2 _ (by omega) _ h1]
      simp only
      unfold timRs
      rw [skp_no h2]
      exact Prod.ext (by simp only; omega) rfl
    · rw [if_neg a2]
      simp only [List.append_assoc, List.cons_append]
      unfold timRu
      rw [numR_dec _ hq _ (by simp [stp]; decide)]
      simp only
      unfold timRm
      rw [skp_yes]
      simp only
      rw [numR_d2 _ (by omega) _ (by simp [stp]; decide)]
      simp only
      unfold timRs
      rw [skp_yes]
      simp only
      rw [numR_d2 _ (by omega) _ h1]
      exact Prod.ext (by simp only; omega) rfl
theorem timR_tt (n : Int) (h1 : -1000000 < n) (h2 : n < 1000000) (b : List UInt8) (hb : stp dgt b = true) (hc : stp (· == 58) b = true) : timR (tt n ++ b) = (n, b, false) := by
  unfold tt
  by_cases hn : n < 0
  · rw [if_pos hn]
    unfold timR
    rw [List.cons_append, skp_yes]
    simp only
    rw [timRu_tt _ (by omega) b hb hc]
    exact Prod.ext (by simp only; omega) rfl
  · rw [if_neg hn]
    unfold timR
    rw [skp_no (by unfold ttU; rw [List.append_assoc, List.append_assoc]; exact stp_dec (fun c hc => dgt_ne (by decide) hc) _ _)]
    simp only
    rw [timRu_tt _ (by omega) b hb hc]
    exact Prod.ext (by simp only; omega) rfl
theorem nmb_ngt {c : UInt8} (h : nmb c = true) : ngt c = true := by
  unfold ngt; simp only [bne_iff_ne]; rintro rfl; revert h; decide
theorem namR_nt {l : List UInt8} (h : mayN l = true) (b : List UInt8) (hb : stp ltr b = true) : namR (nt l ++ b) = (l, b, false) := by
  unfold nt
  by_cases ha : l.all ltr = true
  · rw [if_pos ha]
    unfold namR
    have hs : stp (· == 60) (l ++ b) = true := by
      cases l with
      | nil => simp [mayN] at h
      | cons c r => simp at ha; simp only [List.cons_append, stp, ltr_ne (k := 60) (by decide) ha.1]; rfl
    rw [skp_no hs]
    simp only
    rw [(tw ha hb).1, (tw ha hb).2]
  · rw [if_neg ha]
    unfold namR
    rw [List.cons_append, skp_yes]
    simp only [List.append_assoc]
    have hl : l.all ngt = true := by
      unfold mayN at h; rw [Bool.and_eq_true] at h
      simp only [List.all_eq_true] at h ⊢
      exact fun x hx => nmb_ngt (h.2 x hx)
    have hs : stp ngt ([62] ++ b) = true := by simp [stp]; decide
    rw [(tw hl hs).1, (tw hl hs).2]
    show (l, (skp 62 (62 :: b)).2, !(skp 62 (62 :: b)).1) = _
    rw [skp_yes]; rfl
def rulRk (l : List UInt8) : (Int × Int × Int × Int) × List UInt8 × Bool := match skp 74 l with
  | (true, r) => ((0, 0, 0, (numR r).1), (numR r).2.1, (numR r).2.2)
  | (false, r) => match skp 77 r with
    | (true, q) => ((2, (numR q).1, (numR (skp 46 (numR q).2.1).2).1, (numR (skp 46 (numR (skp 46 (numR q).2.1).2).2.1).2).1), (numR (skp 46 (numR (skp 46 (numR q).2.1).2).2.1).2).2.1,
        ((numR q).2.2 || (numR (skp 46 (numR q).2.1).2).2.2 || (numR (skp 46 (numR (skp 46 (numR q).2.1).2).2.1).2).2.2) || (!(skp 46 (numR q).2.1).1 || !(skp 46 (numR (skp 46 (numR q).2.1).2).2.1).1))
    | (false, q) => ((1, 0, 0, (numR q).1), (numR q).2.1, (numR q).2.2)
def rulRa (l : List UInt8) : Int × List UInt8 × Bool := match skp 47 l with
  | (true, r) => timR r
  | (false, r) => (7200, r, false)
def rulR (l : List UInt8) : Ru × List UInt8 × Bool :=
  let k := rulRk (skp 44 l).2
  let a := rulRa k.2.1
  (⟨k.1.1, k.1.2.1, k.1.2.2.1, k.1.2.2.2, a.1⟩, a.2.1, !(skp 44 l).1 || k.2.2 || a.2.2)
def redRa (off : Int) (l : List UInt8) : Int × List UInt8 × Bool := if l.head? = some 44 then (off + 3600, l, false) else (-(timR l).1, (timR l).2.1, (timR l).2.2)
def redR (l : List UInt8) : Zo × List UInt8 × Bool :=
  let n := namR l
  let t := timR n.2.1
  if t.2.1 ≠ [] ∧ (n.2.2 || t.2.2) = false then
    let m := namR t.2.1
    let a := redRa (-t.1) m.2.1
    let f := rulR a.2.1
    let g := rulR f.2.1
    (⟨n.1, -t.1, true, m.1, a.1, f.1, g.1⟩, g.2.1, (n.2.2 || t.2.2) || m.2.2 || a.2.2 || f.2.2 || g.2.2)
  else (⟨n.1, -t.1, false, [], 0, ru0, ru0⟩, t.2.1, n.2.2 || t.2.2)
theorem rulR_rt {r : Ru} (h : mayR r = true) (b : List UInt8) (hb : fin b = true) : rulR (rt r ++ b) = (r, b, false) := by
  have hb1 := fin_stp hb (p := dgt) (by decide)
  have hb2 := fin_stp hb (p := (· == 58)) (by decide)
  have hb3 := fin_stp hb (p := (· == 47)) (by decide)
  obtain ⟨k, m, w, d, a⟩ := r
  simp only [mayR, decide_eq_true_eq] at h
  obtain ⟨a1, a2, h⟩ := h
  have hA : rulRa (rtA ⟨k, m, w, d, a⟩ ++ b) = (a, b, false) := by
    unfold rtA rulRa
    by_cases e : a = 7200
    · rw [if_pos e, List.nil_append, skp_no hb3]; exact Prod.ext e.symm rfl
    · rw [if_neg e, List.cons_append, skp_yes]; exact timR_tt a (by omega) (by omega) b hb1 hb2
  have hAs : stp dgt (rtA ⟨k, m, w, d, a⟩ ++ b) = true := by
    unfold rtA; split
    · exact hb1
    · simp [stp]; decide
  have hD : 0 ≤ d → d ≤ 365 → numR (dec d ++ (rtA ⟨k, m, w, d, a⟩ ++ b)) = (d, rtA ⟨k, m, w, d, a⟩ ++ b, false) := by
    intro d1 d2
    unfold dec; rw [numR_dec _ (by omega) _ hAs]; exact Prod.ext (by simp only; omega) rfl
  have hfin : rulRk (rtK ⟨k, m, w, d, a⟩ ++ (dec d ++ (rtA ⟨k, m, w, d, a⟩ ++ b))) = ((k, m, w, d), rtA ⟨k, m, w, d, a⟩ ++ b, false) → rulR (rt ⟨k, m, w, d, a⟩ ++ b) = (⟨k, m, w, d, a⟩, b, false) := by
    intro hK
    unfold rulR rt
    simp only [List.cons_append, skp_yes, List.append_assoc]
    rw [hK]
    simp only
    rw [hA]
    rfl
  refine hfin ?_
  rcases h with ⟨rfl, d1, d2, rfl, rfl⟩ | ⟨rfl, d1, d2, rfl, rfl⟩ | ⟨rfl, m1, m2, w1, w2, d1, d2⟩
  · unfold rtK rulRk
    rw [if_pos rfl, List.cons_append, skp_yes]
    simp only [List.nil_append]
    rw [hD (by omega) d2]
  · unfold rtK rulRk
    simp only
    rw [if_neg (by omega), if_neg (by omega), List.nil_append]
    rw [skp_no (by unfold dec; exact stp_dec (fun c hc => dgt_ne (by decide) hc) _ _)]
    simp only
    rw [skp_no (by unfold dec; exact stp_dec (fun c hc => dgt_ne (by decide) hc) _ _)]
    simp only
    rw [hD d1 d2]
  · unfold rtK rulRk
    simp only
    rw [if_neg (by omega), if_pos trivial]
    simp only [List.cons_append, List.append_assoc, List.nil_append]
    rw [skp_no (by simp [stp])]
    simp only
    rw [skp_yes]
    simp only
    have e1 : numR (dec m ++ 46 :: (dec w ++ 46 :: (dec d ++ (rtA ⟨2, m, w, d, a⟩ ++ b)))) = (m, 46 :: (dec w ++ 46 :: (dec d ++ (rtA ⟨2, m, w, d, a⟩ ++ b))), false) := by
      conv => lhs; unfold dec
      rw [numR_dec _ (by omega) _ (by simp [stp]; decide)]
      exact Prod.ext (by simp only; omega) rfl
    rw [e1]
    simp only
    rw [skp_yes]
    simp only
    have e2 : numR (dec w ++ 46 :: (dec d ++ (rtA ⟨2, m, w, d, a⟩ ++ b))) = (w, 46 :: (dec d ++ (rtA ⟨2, m, w, d, a⟩ ++ b)), false) := by
      conv => lhs; unfold dec
      rw [numR_dec _ (by omega) _ (by simp [stp]; decide)]
      exact Prod.ext (by simp only; omega) rfl
    rw [e2]
    simp only
    rw [skp_yes]
    simp only
    rw [hD d1 (by omega)]
    rfl
theorem redR_wt {z : Zo} (h : mayZ z = true) : redR (wt z) = (z, [], false) := by
  obtain ⟨std, off, has, dst, ahead, fr, to⟩ := z
  unfold mayZ at h
  simp only [Bool.and_eq_true] at h
  obtain ⟨⟨h1, h2⟩, h3⟩ := h
  obtain ⟨o1, o2⟩ := off_bd h2
  have hdl : ∀ c, dgt c = true → ltr c = false := fun c hc => dgt_ltr hc
  cases has with
  | false =>
    simp only [Bool.false_eq_true, if_false, decide_eq_true_eq] at h3
    obtain ⟨rfl, rfl, a1, a2, a3, a4, a5, b1, b2, b3, b4, b5⟩ := h3
    obtain ⟨fk, fm, fw, fd, fa⟩ := fr
    obtain ⟨tk, tm, tw, td, ta⟩ := to
    simp only at a1 a2 a3 a4 a5 b1 b2 b3 b4 b5
    subst a1; subst a2; subst a3; subst a4; subst a5; subst b1; subst b2; subst b3; subst b4; subst b5
    unfold redR wt
    simp only [Bool.false_eq_true, if_false]
    rw [namR_nt h1 _ (by rw [← List.append_nil (tt _)]; exact tt_stp hdl (by decide) _ _)]
    simp only
    have := timR_tt (-off) (by omega) (by omega) [] rfl rfl
    rw [List.append_nil] at this
    rw [this]
    rw [if_neg (by simp)]
    simp [ru0]
  | true =>
    simp only [if_true, Bool.and_eq_true] at h3
    obtain ⟨⟨⟨h4, h5⟩, h6⟩, h7⟩ := h3
    have hR2 : rulR (rt to) = (to, [], false) := by have := rulR_rt h7 [] rfl; rwa [List.append_nil] at this
    have hR1 : rulR (rt fr ++ rt to) = (fr, rt to, false) := rulR_rt h6 _ rfl
    have hA : ∀ wa, wtA ⟨std, off, true, dst, ahead, fr, to⟩ = wa → redRa off (wa ++ (rt fr ++ rt to)) = (ahead, rt fr ++ rt to, false) := by
      rintro wa rfl
      unfold wtA redRa
      by_cases e : ahead = off + 3600
      · rw [if_pos e, List.nil_append, if_pos (by rfl), e]
      · have e2 : offB ahead = true := by simpa [e] using h5
        obtain ⟨p1, p2⟩ := off_bd e2
        rw [if_neg e, if_neg (head_of_stp (tt_stp (fun c hc => dgt_ne (by decide) hc) (by decide) _ _)), timR_tt (-ahead) (by omega) (by omega) _ (fin_stp rfl (by decide)) (fin_stp rfl (by decide))]
        exact Prod.ext (by simp only; omega) rfl
    have hAs : stp ltr (wtA ⟨std, off, true, dst, ahead, fr, to⟩ ++ (rt fr ++ rt to)) = true := by
      unfold wtA; split
      · exact fin_stp rfl (by decide)
      · exact tt_stp hdl (by decide) _ _
    have hne : nt dst ++ (wtA ⟨std, off, true, dst, ahead, fr, to⟩ ++ (rt fr ++ rt to)) ≠ [] := by
      unfold nt
      split
      · cases dst with
        | nil => simp [mayN] at h4
        | cons c r => simp
      · simp
    unfold redR wt
    simp only [if_true, List.append_assoc]
    rw [namR_nt h1 _ (tt_stp hdl (by decide) _ _)]
    simp only
    rw [timR_tt (-off) (by omega) (by omega) _ (stp_nt h4 (fun c hc => ltr_dgt hc) (by decide) _) (stp_nt h4 (fun c hc => ltr_ne (by decide) hc) (by decide) _)]
    simp only
    rw [if_pos ⟨hne, rfl⟩, namR_nt h4 _ hAs]
    simp only
    rw [show - -off = off by omega, hA _ rfl]
    simp only
    rw [hR1]
    simp only
    rw [hR2]
    rfl
end Go.Proofs.YtomnjdammfiadaaDoor.Zn
