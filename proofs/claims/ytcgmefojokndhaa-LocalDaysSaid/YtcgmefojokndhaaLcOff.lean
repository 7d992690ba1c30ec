/- Contracts of package local: how far a zone's time is ahead. -/
import Derived.Test.YtcgmefojokndhaaLcIter
import Derived.Sort.CutIn
namespace Go.Proofs.Ytcgmefojokndhaa
open Go.ChangeShapes Go.WideShapes Go.ChangeAt Go.RowKit Go.Shelf
open Civ Zn Lc
attribute [local go_sem] Oper.semAt_some
noncomputable def offP (z : Zo) (t : Int) : Int := offY z t (yr (t / 86400))
/-- the last turn of those that have come, not above the second -/
def bgF (f : Int → Int) (t : Int) (l : List Int) : Int := l.foldl (fun acc y => if f y ≤ t then f y else acc) 0
theorem bgF_snoc (f : Int → Int) (t : Int) (l : List Int) (y : Int) : bgF f t (l ++ [y]) = if f y ≤ t then f y else bgF f t l := by
  simp [bgF]
theorem bgF_lst (f : Int → Int) (t y : Int) (h : f (y - 2) ≤ t) : bgF f t (yrs (y - 2) 4) = lst f t y := by
  simp only [yrs, List.nil_append, bgF_snoc]
  unfold lst
  rw [show y - 2 + ((3 : Nat) : Int) = y + 1 by omega, show y - 2 + ((2 : Nat) : Int) = y by omega, show y - 2 + ((1 : Nat) : Int) = y - 1 by omega, show y - 2 + ((0 : Nat) : Int) = y - 2 by omega]
  simp [bgF, h]
theorem day_of (n : Int) (w : World) (h1 : -719162 ≤ n) (h2 : n ≤ 2932896) : ∃ y m d : Int, okP y m d ∧ ord y m d = n := by
  obtain ⟨e, w', fr, r, s, x⟩ := date_yes n w h1 h2 []
  obtain ⟨y, m, d, _, h, k, _⟩ := r
  exact ⟨y, m, d, h, k⟩
theorem of_year (t : Int) (w : World) (h : scB t = true) : Lc.Of t (yr (t / 86400)) ∧ 1970 ≤ yr (t / 86400) ∧ yr (t / 86400) ≤ 9999 := by
  have hb : 0 ≤ t ∧ t ≤ 253402300799 := by simpa [scB] using h
  obtain ⟨y, m, d, hk, ho⟩ := day_of (t / 86400) w (by omega) (by omega)
  rw [(ymd_of hk ho).1]
  have a := yd_bd hk
  have b := first_next y hk.1
  have c : first y 1 + cum y m + d - 1 = t / 86400 := by rw [← ho]; unfold first ord; rw [cum_1]; omega
  have d : ¬ y < 1970 := by
    intro hl
    have e := dby_mono (y + 1) 1970 (by have := hk.1; omega) (by omega)
    have g : dby 1970 = 719162 := by decide +kernel
    have k : first (y + 1) 1 = dby (y + 1) - 719162 := by unfold first; rw [cum_1]; omega
    omega
  exact ⟨⟨hk.1, by omega, by omega⟩, by omega, hk.2.1⟩
theorem Bi.put {b : Nat} {v : Int} {x : World} (h : Bi b v x) (u : Int) : Bi b u (x.setCell ⟨b, 0, none⟩ (.int .i64 u)) := by
  unfold Bi at h ⊢
  simp [World.setCell, Array.getElem?_modify, h]
theorem Bi.other {b : Nat} {v : Int} {x : World} (h : Bi b v x) {a : Addr} (ha : b ≠ a.block) (u : Value) : Bi b v (x.setCell a u) := (Below.heap_setCell _ _ _ _ ha).trans h
theorem Bz.other {b : Nat} {z : Zo} {x : World} (h : Bz b z x) {a : Addr} (ha : b ≠ a.block) (u : Value) : Bz b z (x.setCell a u) := (Below.heap_setCell _ _ _ _ ha).trans h
theorem cells_kept {W W' : World} {row : Option Nat} {b : Nat} {cs : Array Value} {t : TypeId} (h : W.heap[b]? = some (.cells cs t)) (hg : W.grownBy W' row) (hr : ∀ r, row = some r → ∃ o : Obj, W.heap[r]? = some o ∧ o.isCells = false) : W'.heap[b]? = some (.cells cs t) := by
  refine (hg.block b (Array.getElem?_eq_some_iff.1 h).1 fun e => ?_).trans h
  obtain ⟨o, ho, hc⟩ := hr b e.symm
  rw [h] at ho; cases ho; cases hc
set_option maxRecDepth 100000 in
set_option maxHeartbeats 2000000 in
theorem offAt_has (z : Zo) (t : Int) (w : World) (hz : mayZ z = true) (ht : scB t = true) (hh : z.has = true) :
    Calls Try.prog 42 #[zoV z, .int .i64 t] w fun e w' => e = .returned (.int .i64 (offP z t)) ∧ Kept w w' := by
  obtain ⟨hY, y1, y2⟩ := of_year t w ht
  have HF := Lib.hid (bgF_lst (fromT z) t _ ((turn_from hz hh).behind hY (by omega)))
  have HU := Lib.hid (bgF_lst (uptoT z) t _ ((turn_upto hz hh).behind hY (by omega)))
  have HO := Lib.hid (show offP z t = if lst (uptoT z) t (yr (t / 86400)) < lst (fromT z) t (yr (t / 86400)) then z.ahead else z.off by unfold offP offY; rw [if_pos hh])
  have HZ := Lib.hid hz; have HH := Lib.hid hh; have HT := Lib.hid ht; clear hz hh ht hY
  have B0 := Lib.hid (bz_new w z)
  have K0 := Lib.hid ((Kept.refl w).alloc (.cells (zo15 z.std z.off z.has z.dst z.ahead z.fr.k z.fr.m z.fr.w z.fr.d z.fr.a z.to.k z.to.m z.to.w z.to.d z.to.a) 25))
  refine (callsIn_wide (n := 5)).1 ?_
  refine callsIn_of_wp_marks Try.func42 rfl trivial ?_ rfl
  simp only [Try.ntmps42, List.size_toArray, List.length_cons, List.length_nil, Nat.reduceAdd, Nat.reduceSub, Array.replicate_succ, Array.replicate_zero, List.push_toArray, List.append_toArray, List.nil_append, List.cons_append]
  gi_upto_region 1 with (fail)
  generalize hx : w.alloc (.cells (zo15 z.std z.off z.has z.dst z.ahead z.fr.k z.fr.m z.fr.w z.fr.d z.fr.a z.to.k z.to.m z.to.w z.to.d z.to.a) 25) = x at *
  have s1 : x.heap.size = w.heap.size + 1 := by rw [← hx]; simp
  clear hx
  have b1 := bi_new x t
  have k1 := (Kept.refl x).alloc (.cells #[.int .i64 t] 3)
  rw [s1] at b1
  generalize hy : x.alloc (.cells #[.int .i64 t] 3) = y at *
  have s2 : y.heap.size = w.heap.size + 1 + 1 := by rw [← hy]; simp [s1]
  clear hy
  have B1 := Lib.hid (B0.out.kept k1)
  have T1 := Lib.hid b1
  have K1 := Lib.hid (K0.out.trans k1)
  clear B0 b1 K0 k1
  have c2 := B1.out.cs.c2
  rw [HH.out] at c2
  gi_upto_region 4 with (fail)
  have b2 := bi_new y 0
  have k2 := (Kept.refl y).alloc (.cells #[.int .i64 0] 3)
  rw [s2] at b2
  generalize hu : y.alloc (.cells #[.int .i64 0] 3) = u at *
  have s3 : u.heap.size = w.heap.size + 1 + 1 + 1 := by rw [← hu]; simp [s2]
  clear hu
  have b3 := bi_new u 0
  have k3 := (Kept.refl u).alloc (.cells #[.int .i64 0] 3)
  rw [s3] at b3
  generalize hv : u.alloc (.cells #[.int .i64 0] 3) = v at *
  have s4 : v.heap.size = w.heap.size + 1 + 1 + 1 + 1 := by rw [← hv]; simp [s3]
  clear hv
  have B2 := Lib.hid ((B1.out.kept k2).kept k3)
  have T2 := Lib.hid ((T1.out.kept k2).kept k3)
  have G2 := Lib.hid (b2.kept k3)
  have E2 := Lib.hid b3
  have K2 := Lib.hid ((K1.out.trans k2).trans k3)
  clear c2 B1 b2 b3 T1 K1 k2 k3
  have ct := T2.out.c
  have c0 := B2.out.cs.c0
  have c1 := B2.out.cs.c1
  have c2 := B2.out.cs.c2
  have c3 := B2.out.cs.c3
  have c4 := B2.out.cs.c4
  have c5 := B2.out.cs.c5
  have c6 := B2.out.cs.c6
  have c7 := B2.out.cs.c7
  have c8 := B2.out.cs.c8
  have c9 := B2.out.cs.c9
  have c10 := B2.out.cs.c10
  have c11 := B2.out.cs.c11
  have c12 := B2.out.cs.c12
  have c13 := B2.out.cs.c13
  have c14 := B2.out.cs.c14
  gi_wp2_with (refine ⟨trivial, ?_⟩; gi_at_call 64; refine (callsIn_wide.2 (around_any z t _ HT.out)).mono ?_; rintro e w1 ⟨nn, ff, gg, rfl, Bn, Bf, Bg, k4, n1, n2, n3⟩)
  clear ct c0 c1 c2 c3 c4 c5 c6 c7 c8 c9 c10 c11 c12 c13 c14
  have B3 := B2.out.kept k4
  have T3 := T2.out.kept k4
  have G3 := G2.out.kept k4
  have E3 := E2.out.kept k4
  have K3 := K2.out.trans k4
  clear B2 T2 G2 E2 K2 k4
  have l1 := Bn.lt
  have l2 := Bg.lt
  generalize yr (t / 86400) = Y at *
  have HZ' := HZ.out
  have hseq := turns_stops 4 (by omega) z HZ.out HH.out nn ff gg 4 (Y - 2) (by omega) (by omega) w1 Bn Bf (by rw [show Y - 2 + ((4 : Nat) : Int) - 1 = Y + 1 by omega]; exact Bg)
  refine wpIn_rangeFunc_ownF rfl (by omega) (gf := 79) (lb := #[.pointer (some ⟨ff, 0, none⟩), .pointer (some ⟨gg, 0, none⟩), .pointer (some ⟨nn, 0, none⟩)]) rfl trivial (enters_of Try.func79 (by kernel_rfl) rfl)
    hseq kp3_t (kp3_b Bn.lt Bf.lt Bg.lt) (Below.refl _ _) (fun _ => rfl)
    (fun pre W => (Bi (w.heap.size + 1 + 1) (bgF (fromT z) t pre) W ∧ Bi (w.heap.size + 1 + 1 + 1) (bgF (uptoT z) t pre) W ∧ Bi (w.heap.size + 1) t W ∧ Bz w.heap.size z W) ∧ Below w.heap.size w W)
    (fun _ _ _ => False)
    (OwnFrom.and (Own.from (fun s A B row hs hg hr => ⟨cells_kept hs.1 hg hr, cells_kept hs.2.1 hg hr, cells_kept hs.2.2.1 hg hr, cells_kept hs.2.2.2 hg hr⟩) _) (ownFrom_below (Nat.le_refl _) K3.size))
    (fun _ _ _ _ _ hs _ _ => hs)
    ⟨⟨G3, E3, T3, B3⟩, K3.below (Nat.le_refl _)⟩
    (fun x => { tmps := #[zoV z, .int .i64 t, .pointer (some ⟨w.heap.size, 0, none⟩), .pointer (some ⟨w.heap.size + 1, 0, none⟩), .int .i64 0, .pointer (some ⟨w.heap.size + 1 + 1, 0, none⟩), .pointer (some ⟨w.heap.size + 1 + 1 + 1, 0, none⟩), .int .i64 (fromT z x), .int .i64 (uptoT z x), .pointer (some ⟨w.heap.size, 2, none⟩), .bool true, .bool false, undef, undef, zoV z, .int .i64 t, .func (.func 79) #[] #[.pointer (some ⟨ff, 0, none⟩), .pointer (some ⟨gg, 0, none⟩), .pointer (some ⟨nn, 0, none⟩)], .int .i64 (fromT z x), .int .i64 (uptoT z x), undef, undef, undef, undef, undef, undef, undef, undef, undef, undef, undef, undef, undef, undef, undef], defers := [] }) ?assign ?body ?done ?stop
  case assign =>
    intro l x W K hK
    gi_wp2
    exact hK
  case body =>
    rintro l pre x W ⟨⟨hg, he, ht, hz⟩, hB⟩ _
    have cg := hg.c
    have ce := he.c
    have ct := ht.c
    have fg : W.frozen? ⟨w.heap.size + 1 + 1, 0, none⟩ = false := by unfold Bi at hg; simp [World.frozen?, hg]
    have fe : W.frozen? ⟨w.heap.size + 1 + 1 + 1, 0, none⟩ = false := by unfold Bi at he; simp [World.frozen?, he]
    by_cases q1 : fromT z x ≤ t
    · by_cases q2 : uptoT z x ≤ t
      · gi_wp2
        exact ⟨(KeepsOthers.setCell _ _ _).trans (KeepsOthers.setCell _ _ _), kp3_t (kp3_set _ _ (by simp only; omega) (by simp only; omega) (by simp only; omega)) (kp3_set _ _ (by simp only; omega) (by simp only; omega) (by simp only; omega)), ⟨by rw [bgF_snoc, if_pos (by omega)]; exact (hg.put _).other (by simp only; omega) _, by rw [bgF_snoc, if_pos (by omega)]; exact (he.other (by simp only; omega) _).put _, (ht.other (by simp only; omega) _).other (by simp only; omega) _, (hz.other (by simp only; omega) _).other (by simp only; omega) _⟩, (hB.setCell (by simp only; omega) _).setCell (by simp only; omega) _⟩
      · gi_wp2
        exact ⟨KeepsOthers.setCell _ _ _, (kp3_set _ _ (by simp only; omega) (by simp only; omega) (by simp only; omega)), ⟨by rw [bgF_snoc, if_pos (by omega)]; exact hg.put _, by rw [bgF_snoc, if_neg (by omega)]; exact he.other (by simp only; omega) _, ht.other (by simp only; omega) _, hz.other (by simp only; omega) _⟩, hB.setCell (by simp only; omega) _⟩
    · by_cases q2 : uptoT z x ≤ t
      · gi_wp2
        exact ⟨KeepsOthers.setCell _ _ _, (kp3_set _ _ (by simp only; omega) (by simp only; omega) (by simp only; omega)), ⟨by rw [bgF_snoc, if_neg (by omega)]; exact hg.other (by simp only; omega) _, by rw [bgF_snoc, if_pos (by omega)]; exact he.put _, ht.other (by simp only; omega) _, hz.other (by simp only; omega) _⟩, hB.setCell (by simp only; omega) _⟩
      · gi_wp2
        exact ⟨KeepsOthers.refl _, ⟨rfl, rfl, rfl⟩, ⟨by rw [bgF_snoc, if_neg (by omega)]; exact hg, by rw [bgF_snoc, if_neg (by omega)]; exact he, ht, hz⟩, hB⟩
  case done =>
    rintro D ys W hD rfl ⟨⟨hg, he, ht, hz⟩, hB⟩ hK
    rw [HF.out] at hg
    rw [HU.out] at he
    have cg := hg.c
    have ce := he.c
    have c1 := hz.cs.c1
    have c4 := hz.cs.c4
    have hle := K3.size
    have hBD := hB.trans (belowK_b (w := w) (Nat.le_refl _) W D _ (.deferred none) (by omega) hK rfl rfl)
    by_cases q : lst (uptoT z) t Y < lst (fromT z) t Y
    · have HR := Lib.hid (show offP z t = z.ahead by rw [HO.out, if_pos q])
      gi_wp2
      refine ⟨by simp, .inl ⟨_, _, rfl, run_takeDeferred hK, ?_⟩⟩
      exact ⟨_, results_tmp rfl _ _ _, by rw [HR.out]; rfl, Kept.of_below hBD⟩
    · have HR := Lib.hid (show offP z t = z.off by rw [HO.out, if_neg q])
      gi_wp2
      refine ⟨by simp, .inl ⟨_, _, rfl, run_takeDeferred hK, ?_⟩⟩
      exact ⟨_, results_tmp rfl _ _ _, by rw [HR.out]; rfl, Kept.of_below hBD⟩
  case stop =>
    rintro D c pre W _ _ h _
    exact h.elim
end Go.Proofs.Ytcgmefojokndhaa
