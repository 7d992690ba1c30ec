/- Package reply: Put. -/
import Derived.Test.YtdfmnjoklehifaaDoorRpT
set_option linter.unusedSimpArgs false
set_option linter.unusedVariables false
namespace Go.Proofs.YtdfmnjoklehifaaDoor.Bk.Rp
open Go.ChangeShapes Go.WideShapes Go.ChangeAt Go.RowKit Go.Shelf
attribute [local go_sem] Oper.semAt_some
set_option maxRecDepth 100000 in
theorem lines_any (b : Nat) (bv : Value) (w : World) (h1 : bv.oneCell' = true) : Calls Tryd.prog 32 #[pV b, bv] w fun e w' => e = .returned (.func (.func 44) #[] #[pV w.heap.size, pV (w.heap.size + 1)]) ∧ w' = (w.alloc (.cells #[pV b] 38)).alloc (.cells #[bv] 26) := by
  cases bv <;> simp [Value.oneCell'] at h1 <;> (
    go_enter Tryd.func32, Tryd.ntmps32
    go_wp2
    go_ret
    exact ⟨rfl, rfl⟩)
theorem set_same {n b : Nat} {t : TypeId} {v : Value} {W : World} (h : Bv t b v W) : Cc n W (W.setCell ⟨b, 0, none⟩ v) := by
  have hs := h.set v
  have e : ∀ k, (W.setCell ⟨b, 0, none⟩ v).heap[k]? = W.heap[k]? := fun k => by
    by_cases q : k = b
    · subst q
      unfold Bv at hs h
      rw [hs, h]
    · exact Below.heap_setCell _ _ _ _ q
  exact ⟨rfl, rfl, rfl, by simp [World.setCell], fun k o hk _ => (e k).trans hk, fun k _ => e k⟩
/-- within the handing on -/
def PI (w0 : World) (D b bl n : Nat) (c0 : Int) (ls0 : List B) (T0 r0 : B) (s : Sg) (W : World) : Prop :=
  ∃ D' lv, Pf w0 D b bl n s.2.2.1 D' W ∧ RdB b false s.1 lv r0 W ∧ OwnS D' lv s.2.1 W ∧ EX W ∧ run c0 ls0 T0 = ((run s.1 s.2.1 s.2.2.2).1, s.2.2.1 ++ (run s.1 s.2.1 s.2.2.2).2) ∧ okS s.1 s.2.1 ∧ s.2.2.1.length + s.2.2.2.length ≤ 1100000
/-- what can't be has come -/
def PX (w0 : World) (D b bl n : Nat) (c0 : Int) (ls0 : List B) (T0 : B) (ch : List PanicEntry) (W : World) : Prop :=
  ∃ acc D', ch = chF ∧ Pf w0 D b bl n acc D' W ∧ run c0 ls0 T0 = (none, acc)
theorem PI.cc {m : Nat} {w0 : World} {D b bl n : Nat} {c0 : Int} {ls0 : List B} {T0 r0 : B} {s : Sg} {W W' : World} (h : PI w0 D b bl n c0 ls0 T0 r0 s W) (c : Cc m W W') (hm : D ≤ m) (h8 : 8 ≤ m) : PI w0 D b bl n c0 ls0 T0 r0 s W' := by
  obtain ⟨D', lv, h1, h2, h3, h4, h5⟩ := h
  exact ⟨D', lv, h1.cc c hm, h2.cc c, own_cc h3 c, h4.cc c h8, h5⟩
theorem Bv.ex {t : TypeId} {b : Nat} {v : Value} {w w' : World} {p : Nat → Prop} (h : Bv t b v w) (k : Ex p w w') (hp : ¬ p b) : Bv t b v w' := (k.block b h.lt hp).trans h
theorem L3.ex {b : Nat} {c : Int} {l : Bool} {t : B} {w w' : World} {p : Nat → Prop} (h : L3 b c l t w) (k : Ex p w w') (hp : ¬ p b) : L3 b c l t w' := (k.block b h.lt hp).trans h
theorem L3.cc {n b : Nat} {c : Int} {l : Bool} {t : B} {w w' : World} (h : L3 b c l t w) (k : Cc n w w') : L3 b c l t w' := k.same _ _ h rfl
/-- blocks of other types are neither the reader nor its row -/
theorem rw_not {D b k : Nat} {bad : Bool} {c : Int} {lv : Value} {r : B} {ls : List B} {w : World} {cs : Array Value} {t : TypeId} {fz : Nat × Nat} (hr : RdB b bad c lv r w) (ho : OwnS D lv ls w) (hk : w.heap[k]? = some (.cells cs t fz)) (h1 : t ≠ 59) (h2 : t ≠ 9) : ¬ Rw b lv k := fun h => by
  rcases h with rfl | h
  · unfold RdB at hr
    rw [hr] at hk
    cases hk
    exact h1 rfl
  · obtain ⟨c', hc⟩ := own_kind ho k h
    rw [hc] at hk
    cases hk
    exact h2 rfl
/-- answers stay where the reader and its row turn -/
theorem RpU.rw {B0 D b : Nat} {v : Value} {l : List Rep} {bad : Bool} {c : Int} {lv : Value} {r : B} {ls : List B} {w w' : World} (h : RpU B0 D v l w) (k : Ex (Rw b lv) w w') (hr : RdB b bad c lv r w) (ho : OwnS D lv ls w) : RpU B0 D v l w' := by
  refine h.ex k (fun g hg c' hc => ?_) (fun g hg => ?_)
  · exact rw_not hr ho hc (by decide) (by decide) hg
  · rcases hg with rfl | hg
    · refine Or.inr (fun c' hc => ?_)
      unfold RdB at hr
      rw [hr] at hc
      simp at hc
    · exact Or.inl (World.ownsRow.lt ho g hg).1
theorem Rw.cells {D b : Nat} {bad : Bool} {c : Int} {lv : Value} {r : B} {ls : List B} {w : World} (hr : RdB b bad c lv r w) (ho : OwnS D lv ls w) : ∀ g, Rw b lv g → ∀ o, w.heap[g]? = some o → o.isCells = true := fun g hg o h => by
  rcases hg with rfl | hg
  · unfold RdB at hr
    rw [hr] at h
    cases h; rfl
  · obtain ⟨c', hc⟩ := own_kind ho g hg
    rw [hc] at h
    cases h; rfl
/-- a row's block holds no other type -/
theorem not_own {w : World} {B0 : Nat} {e : TypeId} {size : Nat} {v : Value} {n : Nat} {xs : List Value} {k : Nat} {cs : Array Value} {t : TypeId} {fz : Nat × Nat} (h : w.ownsRow B0 e size v n xs) (hk : w.heap[k]? = some (.cells cs t fz)) (hne : t ≠ e) : v.ownBlock ≠ some k := fun q => by
  obtain ⟨c', hc⟩ := own_kind h k q
  rw [hc] at hk
  cases hk
  exact hne rfl
theorem RdB.ex {b : Nat} {bad : Bool} {c : Int} {lv : Value} {r : B} {w w' : World} {p : Nat → Prop} (h : RdB b bad c lv r w) (k : Ex p w w') (hp : ¬ p b) : RdB b bad c lv r w' := (k.block b h.lt hp).trans h
theorem Pf.exb {w0 : World} {D b bl n : Nat} {acc : List Rep} {D' : Nat} {y z : World} {bad : Bool} {c : Int} {lv : Value} {r : B} (P : Pf w0 D b bl n acc D' y) (h : Ex (fun k => k = b) y z) (hr : RdB b bad c lv r z) (h1 : bl ≠ b) (h2 : n ≠ b) : Pf w0 D b bl n acc D' z := by
  obtain ⟨⟨av, a1, a2⟩, a3, a4, a5, a6, ⟨_, _, _, _, a7⟩, a8⟩ := P
  refine ⟨⟨av, a1.ex h h1, a2.ex h (fun g hg c' hc => ?_) (fun g hg => Or.inr fun c' hc => ?_)⟩, a3, Nat.le_trans a4 h.size, a5.ex h h2, a6.trans (h.bo (by omega) (fun k hk => Or.inl hk)), ⟨_, _, _, _, hr⟩, a8.ex h a1 h1 (fun g c' hc q => ?_)⟩
  · subst hg
    unfold RdB at a7
    rw [a7] at hc
    simp at hc
  · subst hg
    unfold RdB at a7
    rw [a7] at hc
    simp at hc
  · subst q
    unfold RdB at a7
    rw [a7] at hc
    simp at hc
theorem Pf.push {w0 : World} {D b bl n : Nat} {acc : List Rep} {D' : Nat} {y z : World} {av v' : Value} {x : Rep} {vs : List Value} (P : Pf w0 D b bl n acc D' y) (ha : Bv 32 bl av y) (hu : RpU D y.heap.size v' (acc ++ [x]) z) (hg : y.grownBy z av.ownBlock)
    (ho : y.ownsRow D 25 5 av acc.length (rpCells acc vs)) (h2 : n ≠ bl) (h3 : b ≠ bl) (hbl : D ≤ bl) (hvo : v'.ownBlock = av.ownBlock ∨ v'.ownBlock = some y.heap.size) : Pf w0 D b bl n (acc ++ [x]) y.heap.size (z.setCell ⟨bl, 0, none⟩ v') := by
  obtain ⟨_, a3, a4, a5, a6, ⟨bad, c, lv, r0, a7⟩, a8⟩ := P
  have e1 : Ex (fun k => av.ownBlock = some k) y z := (Ex.refl _ y).grown hg (fun k hk => Or.inl hk)
  have e2 : Ex (fun k => k = bl) z (z.setCell ⟨bl, 0, none⟩ v') := Ex.set (p := fun k => k = bl) (Ex.refl _ z) rfl 0 v'
  have b1 := ha.ex e1 (not_own ho ha (by decide))
  have b1' := b1
  refine ⟨⟨v', b1.set v', hu.ex e2 (fun g hg c' hc => ?_) (fun g hg => Or.inr fun c' hc => ?_)⟩, by omega, Nat.le_trans e1.size e2.size, (a5.ex e1 (not_own ho a5 (by decide))).ex e2 h2, ?_, ⟨bad, c, lv, r0, (a7.ex e1 (not_own ho a7 (by decide))).ex e2 h3⟩, fun k cs hk => ?_⟩
  · subst hg
    unfold Bv at b1'
    rw [b1'] at hc
    simp at hc
  · subst hg
    unfold Bv at b1'
    rw [b1'] at hc
    simp at hc
  · refine (a6.trans (e1.bo (by omega) (fun k hk => Or.inr (World.ownsRow.lt ho k hk).1))).trans (e2.bo ?_ (fun k hk => Or.inr (by omega)))
    have := e1.size
    omega
  · obtain ⟨g1, g2⟩ := a8 k cs hk
    have kl := (Array.getElem?_eq_some_iff.1 g1).1
    have g3 := (e1.block k kl (g2 av ha)).trans g1
    refine ⟨(e2.block k (Array.getElem?_eq_some_iff.1 g3).1 (fun q => ?_)).trans g3, fun av' hav => ?_⟩
    · subst q
      unfold Bv at b1'
      rw [b1'] at g3
      simp at g3
    · rw [← (b1.set v').inj hav]
      rcases hvo with q | q
      · rw [q]; exact g2 av ha
      · rw [q]
        intro e
        injection e with e
        omega
set_option maxRecDepth 100000 in
set_option maxHeartbeats 16000000 in
theorem put_any (D b : Nat) (s : St) (bs : B) (bv : Value) (w : World) (hS : RS D b (some s) w) (hR : BRd bv bs w) (hE : EX w) (h8 : 8 ≤ b) (hok : okS s.1 s.2.1) (hr : s.2.2.length ≤ 1000) (hbs : bs.length ≤ 1000000) :
    Calls Tryd.prog 18 #[pV b, bv] w (PutP D b (put (some s) bs) w) := by
  obtain ⟨c0, ls0, r0⟩ := s
  obtain ⟨hbD, hDw, lv0, hRd, hOw⟩ := hS
  simp only at hRd hOw hok hr
  show Calls Tryd.prog 18 #[pV b, bv] w (PutP D b (run c0 ls0 (r0 ++ bs)) w)
  have hT : (r0 ++ bs).length ≤ 1001000 := by simp; omega
  have K0 := Lib.hid (((Kept.refl w).alloc (.cells #[pV b] 38)).alloc (.cells #[.slice none 0 0] 32))
  have B0 := Lib.hid ((Bv.new w (pV b) 38).kept ((Kept.refl _).alloc (.cells #[.slice none 0 0] 32)))
  have B1 := Bv.new (w.alloc (.cells #[pV b] 38)) (.slice none 0 0) 32
  simp only [World.size_alloc] at B1
  replace B1 := Lib.hid B1
  have hz0 := Lib.hid (show ((w.alloc (.cells #[pV b] 38)).alloc (.cells #[.slice none 0 0] 32)).heap.size = w.heap.size + 2 by simp)
  have R0 := Lib.hid (hRd.kept K0.out)
  have O0 := Lib.hid (OwnS.kept hOw K0.out)
  have V0 := Lib.hid (hR.kept K0.out)
  have E0 := Lib.hid (hE.kept K0.out)
  have hok' := Lib.hid hok
  have h1 : bv.oneCell' = true := by
    obtain ⟨a, c, rfl⟩ := hR.slice
    rfl
  clear hRd hOw hR hE hok
  refine callsIn_wide.1 (callsK_of (n := 9) Tryd.func18 rfl ?_)
  simp only [Tryd.ntmps18, List.size_toArray, List.length_cons, List.length_nil, Nat.reduceAdd, Nat.reduceSub, Array.replicate_succ, Array.replicate_zero, List.push_toArray, List.append_toArray, List.nil_append, List.cons_append]
  refine wpK_seq_k (fun K hK => ?_)
  gi_wp2
  generalize (w.alloc (.cells #[pV b] 38)).alloc (.cells #[.slice none 0 0] 32) = W0 at *
  obtain ⟨n, hn⟩ : ∃ n, n = w.heap.size := ⟨_, rfl⟩
  have HN := Lib.hid hn
  rw [← hn] at B0 B1 hz0 hDw ⊢
  clear hn
  have HDW := Lib.hid hDw
  refine wpK_seq_k (fun K hK => ?_)
  have n0 := B0.out.c
  gi_wp2_with fail
  refine ⟨trivial, ?_⟩
  refine (callsIn_wide.2 (bad_any b false c0 lv0 r0 W0 R0.out)).mono ?_
  rintro e w1 ⟨rfl, rfl⟩
  gi_wp2
  skip
  refine wpK_seq_k (fun K hK => ?_)
  gi_wp2
  skip
  refine wpK_seq_l ?_
  refine wpK_seq_k (fun K hK => ?_)
  gi_wp2_with fail
  refine ⟨trivial, ?_⟩
  refine (callsIn_wide.2 (lines_any b bv W0 h1)).mono ?_
  rintro e w1 ⟨rfl, hw1⟩
  have k1 : Kept W0 w1 := by rw [hw1]; exact ((Kept.refl W0).alloc _).alloc _
  have p1 : Bv 38 W0.heap.size (pV b) w1 := by rw [hw1]; exact (Bv.new W0 (pV b) 38).kept ((Kept.refl _).alloc _)
  have p2 : Bv 26 (W0.heap.size + 1) bv w1 := by
    rw [hw1]
    have := Bv.new (W0.alloc (.cells #[pV b] 38)) bv 26
    simpa only [World.size_alloc] using this
  clear hw1
  have R1 := Lib.hid (R0.out.kept k1)
  have O1 := Lib.hid (OwnS.kept O0.out k1)
  have V1 := Lib.hid (V0.out.kept k1)
  have E1 := Lib.hid (E0.out.kept k1)
  have B2 := Lib.hid (B0.out.kept k1)
  have B3 := Lib.hid (B1.out.kept k1)
  have K1 := Lib.hid (K0.out.trans k1)
  have hz1 := Lib.hid (show n + 4 ≤ w1.heap.size from by
    have := (Array.getElem?_eq_some_iff.1 p2).1
    have := hz0.out
    omega)
  have P1 := Lib.hid p1
  have P2 := Lib.hid p2
  clear R0 O0 V0 E0 B0 B1 K0 k1 p1 p2 n0
  rw [hz0.out] at P1 P2 ⊢
  clear hz0
  gi_wp2
  skip
  refine wpK_block ?_
  have hzb : n + 1 ≠ b := by omega
  refine rangeK_itr (n := 9) (gf := 44) (lb := #[pV (n + 2), pV (n + 2 + 1)]) rfl (fun args w => by simp [go_sem]) (cap := LnCap b (n + 2) (n + 2 + 1) r0 bs)
    (lines_itr b (n + 2) (n + 2 + 1) r0 bs c0 ls0 hr (by omega)) ⟨⟨false, c0, lv0, R1.out⟩, bv, P2.out, V1.out⟩ (fun A B k h => h.kept k)
    ?hEnd (fun s arr o hs => by obtain ⟨_, _, _, _, _, _, rfl, _⟩ := hs; rfl)
    (fun s W => PI w D b (n + 1) n c0 ls0 (r0 ++ bs) r0 s W ∧ Bv 38 (n + 2) (pV b) W) (PX w D b (n + 1) n c0 ls0 (r0 ++ bs)) ?hI ?hIo ?h0 ?round ?done ?fell ?pan
  case hEnd =>
    rintro s X e W' (⟨_, _, rfl, hex, ⟨_, _, _, _, hr⟩, _⟩ | ⟨rfl, hk, _⟩)
    · refine ⟨hex.nc (fun g hg o ho => ?_), Or.inl ⟨_, rfl⟩⟩
      subst hg
      unfold RdB at hr
      rw [hr] at ho
      cases ho; rfl
    · exact ⟨Nc.of hk, Or.inr ⟨_, rfl⟩⟩
  case hI =>
    rintro s A B ⟨h, h2⟩ c
    exact ⟨h.cc c (by have := hz1.out; omega) (by have := hz1.out; omega), h2.cc c⟩
  case hIo =>
    rintro s A ⟨⟨D', lv, h1, h2, h3, h4, h5⟩, h6⟩
    exact ⟨⟨_, _, _, _, h2⟩, h6, h4⟩
  case h0 =>
    refine ⟨⟨D, lv0, ⟨⟨_, B3.out, RpU.nil _ _ _⟩, Nat.le_refl _, by have := hz1.out; omega, B2.out, Bo.of K1.out (by rw [← HN.out]; omega), ⟨_, _, _, _, R1.out⟩, fun k cs hk => ⟨(K1.out.block k (Array.getElem?_eq_some_iff.1 hk).1).trans hk, fun av hav => by rw [← B3.out.inj hav]; simp [Value.ownBlock]⟩⟩, R1.out, O1.out, E1.out, ?_, hok'.out, ?_⟩, P1.out⟩
    · simp
    · simp only [List.length_nil]; omega
  case round =>
    rintro lo ⟨c, ls, acc, T⟩ arr o V ⟨p, t, ⟨xc, xl, xt⟩, hTe, hno, hx, rfl, ho⟩ ⟨⟨D', lv, h1, h2, h3, h4, h5, h6, h7⟩, h8'⟩ K hK
    simp only at h1 h2 h3 h5 h6 h7 hTe ho
    obtain ⟨x1, x2, x3, x4⟩ := rdL_some hx
    have x5 : okT xt = true := okT_iff.2 ⟨x2, x3, fun e => hno (by rw [x4]; simp [lb, e])⟩
    have HRun : Hid (run c0 ls0 (r0 ++ bs) = (match stepL c ls (xc, xl, xt) with
      | none => (none, acc)
      | some q => ((run q.2.1 q.2.2 t).1, acc ++ (q.1 ++ (run q.2.1 q.2.2 t).2)))) := Lib.hid (by
      rw [h5, hTe, run_hit hno, hx]
      simp only []
      cases stepL c ls (xc, xl, xt) with
      | none => simp
      | some q => rfl)
    have HST := Lib.hid (fun q (hq : stepL c ls (xc, xl, xt) = some q) => stepL_back hq h6 x1 x5)
    have hml : acc.length + t.length + 1 ≤ 1100000 := by rw [hTe] at h7; simp at h7; omega
    have hls : ls.length ≤ 100 := h6.1
    have HX1 := Lib.hid (show okC xc = true from x1)
    have HX2 := Lib.hid (show xt.length ≤ 506 from x2)
    have HO := Lib.hid ho
    clear x1 x2 x3 x4 x5 h5 h6 h7 hTe hno hx ho
    simp only [List.zip_toArray, List.zip_cons_cons, List.zip_nil_right, List.foldl_toArray, List.foldl_cons, List.foldl_nil, List.setIfInBounds_toArray, List.set_cons_zero, List.set_cons_succ]
    gi_wp2
    have ka := (Kept.refl V).alloc (.cells #[iV xc, .bool xl, sV xt] 67)
    have L0 := L3.new V xc xl xt
    refine hK _ _ ka (fun W2 c2 => ?_)
    have hz2 := hz1.out
    have hD' := h1.d2
    have hd0 := h1.d1
    have hDa : D ≤ V.heap.size := Nat.le_trans hd0 hD'
    have P2 := Lib.hid ((h1.cc (Cc.of ka (Nat.le_refl _)) hDa).cc c2 (by omega))
    have R2 := Lib.hid ((h2.kept ka).cc c2)
    have O2 := Lib.hid (show OwnS D' lv ls W2 from own_cc (OwnS.kept h3 ka) c2)
    have E2 := Lib.hid ((h4.kept ka).cc c2 (by omega))
    have L2 := Lib.hid (L0.cc c2)
    have N2 := Lib.hid ((h8'.kept ka).cc c2)
    have hs2 := Nat.le_trans ka.size c2.size
    have hDW2 : D' ≤ W2.heap.size := by omega
    clear h1 h2 h3 h4 h8' L0 ka c2 hK
    obtain ⟨m, hm⟩ : ∃ m, m = V.heap.size := ⟨_, rfl⟩
    rw [← hm] at L2 ⊢
    clear hm
    obtain ⟨l0, l1, l2⟩ := L2.out.cs
    have n0 := P2.out.p.c
    gi_wp2_with fail
    refine ⟨trivial, ?_⟩
    refine (CallsIn.inRound lo (callsIn_wide.2 (add_any D' b c ls lv r0 (xc, xl, xt) W2 R2.out O2.out (by omega) hDW2 (by omega)))).mono ?_
    intro e w3 hA
    unfold AdP at hA
    by_cases hcond : ls.length < 100 ∧ (ls = [] ∨ xc = c)
    · rw [if_pos hcond] at hA
      obtain ⟨rfl, hex, lv', hr3, ho3, hown⟩ := hA
      simp only at hr3 ho3
      have hst : stepL c ls (xc, xl, xt) = some (if xl then ([(xc, ls ++ [xt], enh xc xt)], 0, []) else ([], xc, ls ++ [xt])) := by unfold stepL; rw [if_pos hcond]
      have HSt := Lib.hid (HST.out _ hst)
      have HO3 := Lib.hid (HO.out.trans (by rw [hst]))
      have HRun3 := Lib.hid (HRun.out.trans (by rw [hst]))
      have NC3 := Lib.hid (hex.nc (Rw.cells R2.out O2.out))
      have hnn : ¬ Rw b lv n := rw_not R2.out O2.out P2.out.p (by decide) (by decide)
      have hn2 : ¬ Rw b lv (n + 2) := rw_not R2.out O2.out N2.out (by decide) (by decide)
      have hmm : ¬ Rw b lv m := rw_not R2.out O2.out L2.out (by decide) (by decide)
      have P3 := Lib.hid (show Pf w D b (n + 1) n acc D' w3 by
        obtain ⟨⟨av, a1, a2⟩, a3, a4, a5, a6, a7, a8⟩ := P2.out
        refine ⟨⟨av, a1.ex hex (rw_not R2.out O2.out a1 (by decide) (by decide)), a2.rw hex R2.out O2.out⟩, a3, Nat.le_trans a4 hex.size, a5.ex hex hnn, a6.trans (hex.bo (by omega) (fun k hk => ?_)), ⟨_, _, _, _, hr3⟩, a8.ex hex a1 (rw_not R2.out O2.out a1 (by decide) (by decide)) (fun k cs hk => rw_not R2.out O2.out hk (by decide) (by decide))⟩
        rcases hk with hk | hk
        · exact Or.inl hk
        · have := (World.ownsRow.lt O2.out k hk).1
          exact Or.inr (by omega))
      have R3 := Lib.hid hr3
      have O3 := Lib.hid ho3
      have N3 := Lib.hid (N2.out.ex hex hn2)
      have L3' := Lib.hid (L2.out.ex hex hmm)
      have E3 := Lib.hid (E2.out.bo (hex.bo (D := D') (b := b) hDW2 (fun k hk => by
        rcases hk with hk | hk
        · exact Or.inl hk
        · exact Or.inr (World.ownsRow.lt O2.out k hk).1)) h8 (by omega))
      have hs3 := hex.size
      clear hr3 ho3 hex hown hcond hst HST HO HRun l0 l1 l2 n0 hnn hn2 hmm P2 R2 O2 N2 L2 E2
      obtain ⟨l0, l1, l2⟩ := L3'.out.cs
      cases xl with
      | false =>
        simp only [Bool.false_eq_true, if_false] at HSt HO3 HRun3
        gi_wp2
        refine ⟨NC3.out, _, HO3.out, ⟨D', lv', ?_, R3.out, O3.out, E3.out, ?_, HSt.out.1, ?_⟩, N3.out⟩
        · simp only [List.append_nil]; exact P3.out
        · rw [HRun3.out]; simp
        · simp only [List.append_nil]; omega
      | true =>
        simp only [if_true] at HSt HO3 HRun3
        obtain ⟨av, a1, a2⟩ := P3.out.a
        obtain ⟨xa, xcp, rfl⟩ := a2.slice
        have hlvs := own_slice O3.out
        obtain ⟨ya, yc, rfl⟩ := hlvs
        have hnb := box_ne R3.out P3.out.p
        have hblb : n + 1 ≠ b := hzb
        have n0 := P3.out.p.c
        have W0A := Lib.hid a1
        have hll : (ls ++ [xt]).length = ls.length + 1 := by simp
        rw [hll] at R3 O3
        have htt : (ls ++ [xt])[ls.length]? = some xt := by simp
        gi_upto_region 8 with (fail)
        refine region_round (fun y => y.cell? ⟨n, 0, none⟩ = some (pV b)) (by kernel_rfl) (by rfl) (fun ⟨_, _, h⟩ => h) n0 (fun hS0 => ?_)
        have kd := (Kept.refl w3).drew
        have PwQ := Lib.hid (P3.out.cc (Cc.of kd (Nat.le_refl _)) (by omega))
        have AwQ := Lib.hid (a1.kept kd)
        have RwQ := Lib.hid (R3.out.kept kd)
        have OwQ := Lib.hid (OwnS.kept O3.out kd)
        have NwQ := Lib.hid (N3.out.kept kd)
        have EwQ := Lib.hid (E3.out.kept kd)
        have CwQ := Lib.hid (NC3.out.trans (Nc.of kd))
        have UwQ := Lib.hid (a2.kept kd)
        clear kd a1 a2 P3 R3 O3 N3 L3' E3 NC3 W0A n0 l0 l1 l2 hs3
        generalize w3.drew = wQ at *
        refine wpAnyH_take (i := 1) (oi := { dst := some 19, op := Go.Op.load 38 (Go.Operand.tmp 2), type := 38, pos := "reply.go:47", after := #[], guard := none }) (v := ?vz1) rfl (by kernel_rfl) (by kernel_rfl) (by kernel_rfl) (fun _ _ _ h => h) (Or.inl ⟨by rfl, ?yz1⟩) (by assumption) ?rz1
        case yz1 => (intro wq hSw; (try dsimp only at hSw); go_simp; try with_reducible rfl)
        simp only [Act.put, List.setIfInBounds_toArray, List.set_cons_zero, List.set_cons_succ]
        refine wpAnyH_ready (rs := [0, 2]) (by kernel_rfl) (by simp) (AllReadyH.cons (o := { dst := some 18, op := Go.Op.load 32 (Go.Operand.tmp 4), type := 32, pos := "reply.go:47", after := #[], guard := none }) rfl (fun K hK => ?_) (AllReadyH.cons (o := { dst := some 20, op := Go.Op.call { callee := Go.Callee.value (Go.Operand.func 34), args := #[Go.Operand.tmp 19], argTypes := #[38] }, type := 25, pos := "reply.go:47", after := #[{ on := 1, ground := Go.Ground.data }], guard := none }) rfl (fun K hK => ?_) AllReadyH.nil))
        · have c0 := AwQ.out.c
          go_simp
          refine Shut.out hK _ _ PwQ.out.p.c (fun hSb => ?_)
          clear hK K
          try simp only [Act.put, List.setIfInBounds_toArray, List.set_cons_zero, List.set_cons_succ]
          clear c0
          refine wpAnyH_ready (rs := [2]) (by kernel_rfl) (by simp) (AllReadyH.cons (o := { dst := some 20, op := Go.Op.call { callee := Go.Callee.value (Go.Operand.func 34), args := #[Go.Operand.tmp 19], argTypes := #[38] }, type := 25, pos := "reply.go:47", after := #[{ on := 1, ground := Go.Ground.data }], guard := none }) rfl (fun K hK => ?_) AllReadyH.nil)
          · go_simp
            refine (whole_any D' b ls.length xc (ls ++ [xt]) (.slice ya (ls.length + 1) yc) r0 xt wQ EwQ.out RwQ.out OwQ.out h8 hll (by omega) HX1.out htt (by have := HX2.out; omega)).mono ?_
            rintro e w2 ⟨rfl, hrw2, hex⟩
            have Pw2 := Lib.hid (PwQ.out.exb hex hrw2 hblb hnb)
            have Aw2 := Lib.hid (AwQ.out.ex hex hblb)
            have Rw2 := Lib.hid hrw2
            have Ow2 := Lib.hid (show OwnS D' (.slice ya (ls.length + 1) yc) (ls ++ [xt]) w2 from own_ex OwQ.out hex (fun g hg q => by
              have := (World.ownsRow.lt OwQ.out g hg).1
              omega))
            have Nw2 := Lib.hid (NwQ.out.ex hex (box_ne RwQ.out NwQ.out))
            have Ew2 := Lib.hid (EwQ.out.bo (hex.bo (D := D) (b := b) (by have := PwQ.out.d2; omega) (fun k hk => Or.inl hk)) h8 (by omega))
            have Cw2 := Lib.hid (CwQ.out.trans (hex.nc (fun g hg o ho => by
              subst hg
              have hq := RwQ.out
              unfold RdB at hq
              rw [hq] at ho
              cases ho; rfl)))
            have Uw2 := Lib.hid (show RpU D D' (.slice xa acc.length xcp) acc w2 from UwQ.out.ex hex (fun g hg c' hc => by
              subst hg
              have hq := RwQ.out
              unfold RdB at hq
              rw [hq] at hc
              simp at hc) (fun g hg => Or.inr fun c' hc => by
              subst hg
              have hq := RwQ.out
              unfold RdB at hq
              rw [hq] at hc
              simp at hc))
            clear hrw2 hex
            refine Shut.out hK _ _ Pw2.out.p.c (fun hSb => ?_)
            clear hK K
            try simp only [Act.put, List.setIfInBounds_toArray, List.set_cons_zero, List.set_cons_succ]
            refine wpAnyH_ready (rs := [3]) (by kernel_rfl) (by simp) (AllReadyH.cons (o := { dst := some 21, op := Go.Op.buildSlice 32 1 #[(0, Go.Operand.tmp 20)], type := 32, pos := "reply.go:47", after := #[{ on := 2, ground := Go.Ground.data }], guard := none }) rfl (fun K hK => ?_) AllReadyH.nil)
            · go_simp
              try simp only [hll]
              have kx := (Kept.refl w2).alloc (.cells #[iV xc, .slice ya (ls.length + 1) yc, iV (enh xc xt).1, iV (enh xc xt).2.1, iV (enh xc xt).2.2] 25)
              have Xw3 := Lib.hid (R5.new w2 (xc, ls ++ [xt], enh xc xt) (.slice ya (ls.length + 1) yc))
              have Pw3 := Lib.hid (Pw2.out.cc (Cc.of kx (Nat.le_refl _)) (by have := Pw2.out.d2; omega))
              have Aw3 := Lib.hid (Aw2.out.kept kx)
              have Rw3 := Lib.hid (Rw2.out.kept kx)
              have Ow3 := Lib.hid (OwnS.kept Ow2.out kx)
              have Nw3 := Lib.hid (Nw2.out.kept kx)
              have Ew3 := Lib.hid (Ew2.out.kept kx)
              have Cw3 := Lib.hid (Cw2.out.trans (Nc.of kx))
              have Uw3 := Lib.hid (Uw2.out.kept kx)
              clear kx
              refine Shut.out hK _ _ Pw3.out.p.c (fun hSb => ?_)
              clear hK K
              try simp only [Act.put, List.setIfInBounds_toArray, List.set_cons_zero, List.set_cons_succ]
              obtain ⟨kbw3, hkbw3⟩ : ∃ k, k = w2.heap.size := ⟨_, rfl⟩
              rw [← hkbw3] at Xw3 ⊢
              clear hkbw3
              generalize w2.alloc (.cells #[iV xc, .slice ya (ls.length + 1) yc, iV (enh xc xt).1, iV (enh xc xt).2.1, iV (enh xc xt).2.2] 25) = w3 at *
              have hx5 := Xw3.out.cs
              obtain ⟨v', wz, hrn, hu, hg, hvo, vs, ho⟩ := run_pushR w3 D w3.heap.size 32 (.slice xa acc.length xcp) acc (xc, ls ++ [xt], enh xc xt) (.slice ya (ls.length + 1) yc) kbw3 (Uw3.out.mono (Nat.le_refl _) Pw3.out.d2) (OwnS.mono Ow3.out Pw3.out.d1) (OwnS.und Ow3.out) hx5.1 hx5.2.1 hx5.2.2.1 hx5.2.2.2.1 hx5.2.2.2.2 (by omega) (Nat.le_trans Pw3.out.d1 Pw3.out.d2)
              clear hx5
              refine wpAnyH_ready (rs := [4]) (by kernel_rfl) (by simp) (AllReadyH.cons (o := { dst := some 22, op := Go.Op.call { callee := Go.Callee.builtin Go.Builtin.append, args := #[Go.Operand.tmp 18, Go.Operand.tmp 21], argTypes := #[32, 32] }, type := 32, pos := "reply.go:47", after := #[{ on := 0, ground := Go.Ground.data }, { on := 3, ground := Go.Ground.data }, { on := 2, ground := Go.Ground.chain }], guard := none }) rfl (fun K hK => ?_) AllReadyH.nil)
              rw [if_pos (by rfl)]
              refine wp_okE (.tmp 18) (.tmp 21) 32 32 32 rfl hrn (by rfl) (by rfl) rfl ?_
              have ex := Lib.hid ((Ex.refl (fun k => (Value.slice xa acc.length xcp).ownBlock = some k) w3).grown hg (fun k hk => Or.inl hk))
              have PN := Lib.hid (Pw3.out.p.ex ex.out (not_own ho Pw3.out.p (by decide)))
              have AN := Lib.hid (Aw3.out.ex ex.out (not_own ho Aw3.out (by decide)))
              have RN := Lib.hid (Rw3.out.ex ex.out (not_own ho Rw3.out (by decide)))
              have NN := Lib.hid (Nw3.out.ex ex.out (not_own ho Nw3.out (by decide)))
              have EN := Lib.hid (Ew3.out.bo (ex.out.bo (D := D) (b := b) (Nat.le_trans Pw3.out.d1 Pw3.out.d2) (fun k hk => Or.inr (World.ownsRow.lt ho k hk).1)) h8 (by omega))
              have CN := Lib.hid (Cw3.out.trans (ex.out.nc (fun k hk q hq => by
                obtain ⟨c', hc⟩ := own_kind ho k hk
                rw [hc] at hq
                cases hq; rfl)))
              obtain ⟨va, vc, hv'⟩ := hu.slice
              rw [show (acc ++ [(xc, ls ++ [xt], enh xc xt)]).length = acc.length + 1 by simp] at hv'
              subst hv'
              have PZ := Lib.hid (Pf.push Pw3.out Aw3.out hu hg ho (show n ≠ n + 1 by omega) (fun e => hblb e.symm) (show D ≤ n + 1 by omega) hvo)
              clear hu hg hrn ho hvo
              refine Shut.out hK _ _ PN.out.c (fun hSb => ?_)
              clear hK K
              try simp only [Act.put, List.setIfInBounds_toArray, List.set_cons_zero, List.set_cons_succ]
              have c0 := AN.out.c
              have f0 := AN.out.frz
              refine wpAnyH_ready (rs := [5]) (by kernel_rfl) (by simp) (AllReadyH.cons (o := { dst := none, op := Go.Op.store 32 (Go.Operand.tmp 4) (Go.Operand.tmp 22), type := 0, pos := "reply.go:47", after := #[{ on := 4, ground := Go.Ground.data }, { on := 4, ground := Go.Ground.chain }, { on := 0, ground := Go.Ground.phase }, { on := 1, ground := Go.Ground.phase }, { on := 2, ground := Go.Ground.phase }, { on := 3, ground := Go.Ground.phase }, { on := 4, ground := Go.Ground.phase }], guard := none }) rfl (fun K hK => ?_) AllReadyH.nil)
              go_simp
              refine Shut.out hK _ _ (PN.out.other (show n ≠ n + 1 by omega) 0 _).c (fun hSb => ?_)
              clear hK K
              try simp only [Act.put, List.setIfInBounds_toArray, List.set_cons_zero, List.set_cons_succ]
              refine wpAnyH_done (by kernel_rfl) ?_ _
              have RZ := Lib.hid (RN.out.other (fun e => hblb e.symm) 0 (.slice va (acc.length + 1) vc))
              have NZ := Lib.hid (NN.out.other (show n + 2 ≠ n + 1 by omega) 0 (.slice va (acc.length + 1) vc))
              have CZ := Lib.hid (CN.out.trans (Nc.set (A := wz) (p := ⟨n + 1, 0, none⟩) (.slice va (acc.length + 1) vc)))
              have EZ := Lib.hid (EN.out.bo (D := D) (b := b) ((Ex.set (p := fun k => k = n + 1) (Ex.refl _ wz) rfl 0 (.slice va (acc.length + 1) vc)).bo (by have := ex.out.size; have := Pw3.out.d2; omega) (fun k hk => Or.inr (by omega))) h8 (by omega))
              refine ⟨CZ.out, _, HO3.out, ⟨w3.heap.size, .slice none 0 0, PZ.out, RZ.out, OwnS.nil _ _, EZ.out, ?_, HSt.out.1, ?_⟩, NZ.out⟩
              · rw [HRun3.out]; simp
              · simp; omega
        · go_simp
          refine (whole_any D' b ls.length xc (ls ++ [xt]) (.slice ya (ls.length + 1) yc) r0 xt wQ EwQ.out RwQ.out OwQ.out h8 hll (by omega) HX1.out htt (by have := HX2.out; omega)).mono ?_
          rintro e w5 ⟨rfl, hrw5, hex⟩
          have Pw5 := Lib.hid (PwQ.out.exb hex hrw5 hblb hnb)
          have Aw5 := Lib.hid (AwQ.out.ex hex hblb)
          have Rw5 := Lib.hid hrw5
          have Ow5 := Lib.hid (show OwnS D' (.slice ya (ls.length + 1) yc) (ls ++ [xt]) w5 from own_ex OwQ.out hex (fun g hg q => by
            have := (World.ownsRow.lt OwQ.out g hg).1
            omega))
          have Nw5 := Lib.hid (NwQ.out.ex hex (box_ne RwQ.out NwQ.out))
          have Ew5 := Lib.hid (EwQ.out.bo (hex.bo (D := D) (b := b) (by have := PwQ.out.d2; omega) (fun k hk => Or.inl hk)) h8 (by omega))
          have Cw5 := Lib.hid (CwQ.out.trans (hex.nc (fun g hg o ho => by
            subst hg
            have hq := RwQ.out
            unfold RdB at hq
            rw [hq] at ho
            cases ho; rfl)))
          have Uw5 := Lib.hid (show RpU D D' (.slice xa acc.length xcp) acc w5 from UwQ.out.ex hex (fun g hg c' hc => by
            subst hg
            have hq := RwQ.out
            unfold RdB at hq
            rw [hq] at hc
            simp at hc) (fun g hg => Or.inr fun c' hc => by
            subst hg
            have hq := RwQ.out
            unfold RdB at hq
            rw [hq] at hc
            simp at hc))
          clear hrw5 hex
          refine Shut.out hK _ _ Pw5.out.p.c (fun hSb => ?_)
          clear hK K
          try simp only [Act.put, List.setIfInBounds_toArray, List.set_cons_zero, List.set_cons_succ]
          refine wpAnyH_ready (rs := [0, 3]) (by kernel_rfl) (by simp) (AllReadyH.cons (o := { dst := some 18, op := Go.Op.load 32 (Go.Operand.tmp 4), type := 32, pos := "reply.go:47", after := #[], guard := none }) rfl (fun K hK => ?_) (AllReadyH.cons (o := { dst := some 21, op := Go.Op.buildSlice 32 1 #[(0, Go.Operand.tmp 20)], type := 32, pos := "reply.go:47", after := #[{ on := 2, ground := Go.Ground.data }], guard := none }) rfl (fun K hK => ?_) AllReadyH.nil))
          · have c0 := Aw5.out.c
            go_simp
            refine Shut.out hK _ _ Pw5.out.p.c (fun hSb => ?_)
            clear hK K
            try simp only [Act.put, List.setIfInBounds_toArray, List.set_cons_zero, List.set_cons_succ]
            clear c0
            refine wpAnyH_ready (rs := [3]) (by kernel_rfl) (by simp) (AllReadyH.cons (o := { dst := some 21, op := Go.Op.buildSlice 32 1 #[(0, Go.Operand.tmp 20)], type := 32, pos := "reply.go:47", after := #[{ on := 2, ground := Go.Ground.data }], guard := none }) rfl (fun K hK => ?_) AllReadyH.nil)
            · go_simp
              try simp only [hll]
              have kx := (Kept.refl w5).alloc (.cells #[iV xc, .slice ya (ls.length + 1) yc, iV (enh xc xt).1, iV (enh xc xt).2.1, iV (enh xc xt).2.2] 25)
              have Xw7 := Lib.hid (R5.new w5 (xc, ls ++ [xt], enh xc xt) (.slice ya (ls.length + 1) yc))
              have Pw7 := Lib.hid (Pw5.out.cc (Cc.of kx (Nat.le_refl _)) (by have := Pw5.out.d2; omega))
              have Aw7 := Lib.hid (Aw5.out.kept kx)
              have Rw7 := Lib.hid (Rw5.out.kept kx)
              have Ow7 := Lib.hid (OwnS.kept Ow5.out kx)
              have Nw7 := Lib.hid (Nw5.out.kept kx)
              have Ew7 := Lib.hid (Ew5.out.kept kx)
              have Cw7 := Lib.hid (Cw5.out.trans (Nc.of kx))
              have Uw7 := Lib.hid (Uw5.out.kept kx)
              clear kx
              refine Shut.out hK _ _ Pw7.out.p.c (fun hSb => ?_)
              clear hK K
              try simp only [Act.put, List.setIfInBounds_toArray, List.set_cons_zero, List.set_cons_succ]
              obtain ⟨kbw7, hkbw7⟩ : ∃ k, k = w5.heap.size := ⟨_, rfl⟩
              rw [← hkbw7] at Xw7 ⊢
              clear hkbw7
              generalize w5.alloc (.cells #[iV xc, .slice ya (ls.length + 1) yc, iV (enh xc xt).1, iV (enh xc xt).2.1, iV (enh xc xt).2.2] 25) = w7 at *
              have hx5 := Xw7.out.cs
              obtain ⟨v', wz, hrn, hu, hg, hvo, vs, ho⟩ := run_pushR w7 D w7.heap.size 32 (.slice xa acc.length xcp) acc (xc, ls ++ [xt], enh xc xt) (.slice ya (ls.length + 1) yc) kbw7 (Uw7.out.mono (Nat.le_refl _) Pw7.out.d2) (OwnS.mono Ow7.out Pw7.out.d1) (OwnS.und Ow7.out) hx5.1 hx5.2.1 hx5.2.2.1 hx5.2.2.2.1 hx5.2.2.2.2 (by omega) (Nat.le_trans Pw7.out.d1 Pw7.out.d2)
              clear hx5
              refine wpAnyH_ready (rs := [4]) (by kernel_rfl) (by simp) (AllReadyH.cons (o := { dst := some 22, op := Go.Op.call { callee := Go.Callee.builtin Go.Builtin.append, args := #[Go.Operand.tmp 18, Go.Operand.tmp 21], argTypes := #[32, 32] }, type := 32, pos := "reply.go:47", after := #[{ on := 0, ground := Go.Ground.data }, { on := 3, ground := Go.Ground.data }, { on := 2, ground := Go.Ground.chain }], guard := none }) rfl (fun K hK => ?_) AllReadyH.nil)
              rw [if_pos (by rfl)]
              refine wp_okE (.tmp 18) (.tmp 21) 32 32 32 rfl hrn (by rfl) (by rfl) rfl ?_
              have ex := Lib.hid ((Ex.refl (fun k => (Value.slice xa acc.length xcp).ownBlock = some k) w7).grown hg (fun k hk => Or.inl hk))
              have PN := Lib.hid (Pw7.out.p.ex ex.out (not_own ho Pw7.out.p (by decide)))
              have AN := Lib.hid (Aw7.out.ex ex.out (not_own ho Aw7.out (by decide)))
              have RN := Lib.hid (Rw7.out.ex ex.out (not_own ho Rw7.out (by decide)))
              have NN := Lib.hid (Nw7.out.ex ex.out (not_own ho Nw7.out (by decide)))
              have EN := Lib.hid (Ew7.out.bo (ex.out.bo (D := D) (b := b) (Nat.le_trans Pw7.out.d1 Pw7.out.d2) (fun k hk => Or.inr (World.ownsRow.lt ho k hk).1)) h8 (by omega))
              have CN := Lib.hid (Cw7.out.trans (ex.out.nc (fun k hk q hq => by
                obtain ⟨c', hc⟩ := own_kind ho k hk
                rw [hc] at hq
                cases hq; rfl)))
              obtain ⟨va, vc, hv'⟩ := hu.slice
              rw [show (acc ++ [(xc, ls ++ [xt], enh xc xt)]).length = acc.length + 1 by simp] at hv'
              subst hv'
              have PZ := Lib.hid (Pf.push Pw7.out Aw7.out hu hg ho (show n ≠ n + 1 by omega) (fun e => hblb e.symm) (show D ≤ n + 1 by omega) hvo)
              clear hu hg hrn ho hvo
              refine Shut.out hK _ _ PN.out.c (fun hSb => ?_)
              clear hK K
              try simp only [Act.put, List.setIfInBounds_toArray, List.set_cons_zero, List.set_cons_succ]
              have c0 := AN.out.c
              have f0 := AN.out.frz
              refine wpAnyH_ready (rs := [5]) (by kernel_rfl) (by simp) (AllReadyH.cons (o := { dst := none, op := Go.Op.store 32 (Go.Operand.tmp 4) (Go.Operand.tmp 22), type := 0, pos := "reply.go:47", after := #[{ on := 4, ground := Go.Ground.data }, { on := 4, ground := Go.Ground.chain }, { on := 0, ground := Go.Ground.phase }, { on := 1, ground := Go.Ground.phase }, { on := 2, ground := Go.Ground.phase }, { on := 3, ground := Go.Ground.phase }, { on := 4, ground := Go.Ground.phase }], guard := none }) rfl (fun K hK => ?_) AllReadyH.nil)
              go_simp
              refine Shut.out hK _ _ (PN.out.other (show n ≠ n + 1 by omega) 0 _).c (fun hSb => ?_)
              clear hK K
              try simp only [Act.put, List.setIfInBounds_toArray, List.set_cons_zero, List.set_cons_succ]
              refine wpAnyH_done (by kernel_rfl) ?_ _
              have RZ := Lib.hid (RN.out.other (fun e => hblb e.symm) 0 (.slice va (acc.length + 1) vc))
              have NZ := Lib.hid (NN.out.other (show n + 2 ≠ n + 1 by omega) 0 (.slice va (acc.length + 1) vc))
              have CZ := Lib.hid (CN.out.trans (Nc.set (A := wz) (p := ⟨n + 1, 0, none⟩) (.slice va (acc.length + 1) vc)))
              have EZ := Lib.hid (EN.out.bo (D := D) (b := b) ((Ex.set (p := fun k => k = n + 1) (Ex.refl _ wz) rfl 0 (.slice va (acc.length + 1) vc)).bo (by have := ex.out.size; have := Pw7.out.d2; omega) (fun k hk => Or.inr (by omega))) h8 (by omega))
              refine ⟨CZ.out, _, HO3.out, ⟨w7.heap.size, .slice none 0 0, PZ.out, RZ.out, OwnS.nil _ _, EZ.out, ?_, HSt.out.1, ?_⟩, NZ.out⟩
              · rw [HRun3.out]; simp
              · simp; omega
          · go_simp
            try simp only [hll]
            have kx := (Kept.refl w5).alloc (.cells #[iV xc, .slice ya (ls.length + 1) yc, iV (enh xc xt).1, iV (enh xc xt).2.1, iV (enh xc xt).2.2] 25)
            have Xw9 := Lib.hid (R5.new w5 (xc, ls ++ [xt], enh xc xt) (.slice ya (ls.length + 1) yc))
            have Pw9 := Lib.hid (Pw5.out.cc (Cc.of kx (Nat.le_refl _)) (by have := Pw5.out.d2; omega))
            have Aw9 := Lib.hid (Aw5.out.kept kx)
            have Rw9 := Lib.hid (Rw5.out.kept kx)
            have Ow9 := Lib.hid (OwnS.kept Ow5.out kx)
            have Nw9 := Lib.hid (Nw5.out.kept kx)
            have Ew9 := Lib.hid (Ew5.out.kept kx)
            have Cw9 := Lib.hid (Cw5.out.trans (Nc.of kx))
            have Uw9 := Lib.hid (Uw5.out.kept kx)
            clear kx
            refine Shut.out hK _ _ Pw9.out.p.c (fun hSb => ?_)
            clear hK K
            try simp only [Act.put, List.setIfInBounds_toArray, List.set_cons_zero, List.set_cons_succ]
            obtain ⟨kbw9, hkbw9⟩ : ∃ k, k = w5.heap.size := ⟨_, rfl⟩
            rw [← hkbw9] at Xw9 ⊢
            clear hkbw9
            generalize w5.alloc (.cells #[iV xc, .slice ya (ls.length + 1) yc, iV (enh xc xt).1, iV (enh xc xt).2.1, iV (enh xc xt).2.2] 25) = w9 at *
            refine wpAnyH_ready (rs := [0]) (by kernel_rfl) (by simp) (AllReadyH.cons (o := { dst := some 18, op := Go.Op.load 32 (Go.Operand.tmp 4), type := 32, pos := "reply.go:47", after := #[], guard := none }) rfl (fun K hK => ?_) AllReadyH.nil)
            · have c0 := Aw9.out.c
              go_simp
              refine Shut.out hK _ _ Pw9.out.p.c (fun hSb => ?_)
              clear hK K
              try simp only [Act.put, List.setIfInBounds_toArray, List.set_cons_zero, List.set_cons_succ]
              clear c0
              have hx5 := Xw9.out.cs
              obtain ⟨v', wz, hrn, hu, hg, hvo, vs, ho⟩ := run_pushR w9 D w9.heap.size 32 (.slice xa acc.length xcp) acc (xc, ls ++ [xt], enh xc xt) (.slice ya (ls.length + 1) yc) kbw9 (Uw9.out.mono (Nat.le_refl _) Pw9.out.d2) (OwnS.mono Ow9.out Pw9.out.d1) (OwnS.und Ow9.out) hx5.1 hx5.2.1 hx5.2.2.1 hx5.2.2.2.1 hx5.2.2.2.2 (by omega) (Nat.le_trans Pw9.out.d1 Pw9.out.d2)
              clear hx5
              refine wpAnyH_ready (rs := [4]) (by kernel_rfl) (by simp) (AllReadyH.cons (o := { dst := some 22, op := Go.Op.call { callee := Go.Callee.builtin Go.Builtin.append, args := #[Go.Operand.tmp 18, Go.Operand.tmp 21], argTypes := #[32, 32] }, type := 32, pos := "reply.go:47", after := #[{ on := 0, ground := Go.Ground.data }, { on := 3, ground := Go.Ground.data }, { on := 2, ground := Go.Ground.chain }], guard := none }) rfl (fun K hK => ?_) AllReadyH.nil)
              rw [if_pos (by rfl)]
              refine wp_okE (.tmp 18) (.tmp 21) 32 32 32 rfl hrn (by rfl) (by rfl) rfl ?_
              have ex := Lib.hid ((Ex.refl (fun k => (Value.slice xa acc.length xcp).ownBlock = some k) w9).grown hg (fun k hk => Or.inl hk))
              have PN := Lib.hid (Pw9.out.p.ex ex.out (not_own ho Pw9.out.p (by decide)))
              have AN := Lib.hid (Aw9.out.ex ex.out (not_own ho Aw9.out (by decide)))
              have RN := Lib.hid (Rw9.out.ex ex.out (not_own ho Rw9.out (by decide)))
              have NN := Lib.hid (Nw9.out.ex ex.out (not_own ho Nw9.out (by decide)))
              have EN := Lib.hid (Ew9.out.bo (ex.out.bo (D := D) (b := b) (Nat.le_trans Pw9.out.d1 Pw9.out.d2) (fun k hk => Or.inr (World.ownsRow.lt ho k hk).1)) h8 (by omega))
              have CN := Lib.hid (Cw9.out.trans (ex.out.nc (fun k hk q hq => by
                obtain ⟨c', hc⟩ := own_kind ho k hk
                rw [hc] at hq
                cases hq; rfl)))
              obtain ⟨va, vc, hv'⟩ := hu.slice
              rw [show (acc ++ [(xc, ls ++ [xt], enh xc xt)]).length = acc.length + 1 by simp] at hv'
              subst hv'
              have PZ := Lib.hid (Pf.push Pw9.out Aw9.out hu hg ho (show n ≠ n + 1 by omega) (fun e => hblb e.symm) (show D ≤ n + 1 by omega) hvo)
              clear hu hg hrn ho hvo
              refine Shut.out hK _ _ PN.out.c (fun hSb => ?_)
              clear hK K
              try simp only [Act.put, List.setIfInBounds_toArray, List.set_cons_zero, List.set_cons_succ]
              have c0 := AN.out.c
              have f0 := AN.out.frz
              refine wpAnyH_ready (rs := [5]) (by kernel_rfl) (by simp) (AllReadyH.cons (o := { dst := none, op := Go.Op.store 32 (Go.Operand.tmp 4) (Go.Operand.tmp 22), type := 0, pos := "reply.go:47", after := #[{ on := 4, ground := Go.Ground.data }, { on := 4, ground := Go.Ground.chain }, { on := 0, ground := Go.Ground.phase }, { on := 1, ground := Go.Ground.phase }, { on := 2, ground := Go.Ground.phase }, { on := 3, ground := Go.Ground.phase }, { on := 4, ground := Go.Ground.phase }], guard := none }) rfl (fun K hK => ?_) AllReadyH.nil)
              go_simp
              refine Shut.out hK _ _ (PN.out.other (show n ≠ n + 1 by omega) 0 _).c (fun hSb => ?_)
              clear hK K
              try simp only [Act.put, List.setIfInBounds_toArray, List.set_cons_zero, List.set_cons_succ]
              refine wpAnyH_done (by kernel_rfl) ?_ _
              have RZ := Lib.hid (RN.out.other (fun e => hblb e.symm) 0 (.slice va (acc.length + 1) vc))
              have NZ := Lib.hid (NN.out.other (show n + 2 ≠ n + 1 by omega) 0 (.slice va (acc.length + 1) vc))
              have CZ := Lib.hid (CN.out.trans (Nc.set (A := wz) (p := ⟨n + 1, 0, none⟩) (.slice va (acc.length + 1) vc)))
              have EZ := Lib.hid (EN.out.bo (D := D) (b := b) ((Ex.set (p := fun k => k = n + 1) (Ex.refl _ wz) rfl 0 (.slice va (acc.length + 1) vc)).bo (by have := ex.out.size; have := Pw9.out.d2; omega) (fun k hk => Or.inr (by omega))) h8 (by omega))
              refine ⟨CZ.out, _, HO3.out, ⟨w9.heap.size, .slice none 0 0, PZ.out, RZ.out, OwnS.nil _ _, EZ.out, ?_, HSt.out.1, ?_⟩, NZ.out⟩
              · rw [HRun3.out]; simp
              · simp; omega
    · rw [if_neg hcond] at hA
      obtain ⟨rfl, hk⟩ := hA
      have hst : stepL c ls (xc, xl, xt) = none := by unfold stepL; rw [if_neg hcond]
      refine ⟨rfl, Nc.of hk, by rw [HO.out, hst]; rfl, acc, D', rfl, P2.out.cc (Cc.of hk (Nat.le_refl _)) (by omega), by rw [HRun.out, hst]⟩
  case done =>
    rintro ⟨c, ls, acc, T⟩ v X W' W2 ⟨⟨D', lv, h1, h2, h3, h4, h5, h6, h7⟩, h8'⟩ hE hc hd
    simp only at h1 h2 h3 h5 h6 h7
    obtain ⟨e1, e2, e3, e4, _, e6⟩ : (10 : UInt8) ∉ T ∧ T.length < 512 ∧ Ending.returned v = .returned (.tuple #[]) ∧ Ex (fun k => k = b) X W' ∧ (∃ bad c lv r0, RdB b bad c lv r0 X) ∧ ∀ bad c lv r0, RdB b bad c lv r0 X → RdB b bad c lv T W' := by
      rcases hE with h | ⟨h, _⟩
      · exact h
      · cases h
    have q0 : run c0 ls0 (r0 ++ bs) = (some (c, ls, T), acc) := by
      rw [h5, run_none e1, if_pos e2]; simp
    rw [q0]
    have hz2 := hz1.out
    have q1 : Pf w D b (n + 1) n acc D' W' := by
      obtain ⟨⟨av, a1, a2⟩, a3, a4, a5, a6, a7, a8⟩ := h1
      refine ⟨⟨av, a1.ex e4 hzb, a2.ex e4 (fun g hg c' hc => ?_) (fun g hg => Or.inr fun c' hc => ?_)⟩, a3, Nat.le_trans a4 e4.size, a5.ex e4 (show n ≠ b by omega), a6.trans (e4.bo (by omega) (fun k hk => Or.inl hk)), ⟨_, _, _, _, e6 _ _ _ _ h2⟩, a8.ex e4 a1 hzb (fun g c' hc q => ?_)⟩
      · subst hg
        unfold RdB at h2
        rw [h2] at hc
        simp at hc
      · subst hg
        unfold RdB at h2
        rw [h2] at hc
        simp at hc
      · subst q
        unfold RdB at h2
        rw [h2] at hc
        simp at hc
    have q2 : RS D' b (some (c, ls, T)) W2 := by
      refine ⟨Nat.lt_of_lt_of_le hbD q1.d1, Nat.le_trans q1.d2 hc.size, lv, (e6 _ _ _ _ h2).cc hc, own_cc (own_ex h3 e4 (fun g hg hp => ?_)) hc⟩
      have := (World.ownsRow.lt h3 g hg).1
      have := q1.d1
      omega
    have q3 := q1.cc hc (by omega)
    have hD2 := q1.d2
    clear h1 h2 h3 h4 h5 h6 h7 h8' hE hc e1 e2 e3 e4 e6 q0 q1
    obtain ⟨av, a1, a2⟩ := q3.a
    obtain ⟨xa, xc, rfl⟩ := a2.slice
    have c4 := a1.c
    have f4 := a1.frz
    have cz := set_same (n := w1.heap.size) a1
    have q4 := Lib.hid (q3.cc cz (by omega))
    have q5 := Lib.hid (q2.cc cz)
    have hd2 := Lib.hid (show (W2.setCell ⟨n + 1, 0, none⟩ (.slice xa acc.length xc)).heap[w1.heap.size]? = some (.deferred (some [])) from (Below.heap_setCell _ _ _ _ (show w1.heap.size ≠ n + 1 by omega)).trans hd)
    clear q2 q3 cz a1 a2 hd hzb
    simp only [Exit.inBlock, Exit.then]
    gi_wp2
    show LeavesK _ _ _ _ _ _ _
    exact put_out q4.out q5.out hd2.out (by omega) _ rfl
  case fell =>
    rintro ⟨c, ls, acc, T⟩ ch X W' ⟨⟨D', lv, h1, h2, h3, h4, h5, h6, h7⟩, h8'⟩ hE hd
    simp only at h1 h2 h3 h5 h6 h7
    obtain ⟨e1, e2, e3⟩ : Ending.panicked ch = gon ∧ Kept X W' ∧ run c ls T = (none, []) := by
      rcases hE with ⟨_, _, h, _⟩ | h
      · cases h
      · exact h
    injection e1 with e1
    subst e1
    show LeavesK _ _ _ _ _ _ _
    rw [show run c0 ls0 (r0 ++ bs) = (none, acc) by rw [h5, e3]; simp]
    exact put_fell (h1.cc (Cc.of e2 (Nat.le_refl _)) (Nat.le_trans h1.d1 h1.d2)) hbD hd (by have := hz1.out; omega) _ rfl
  case pan =>
    rintro ch W' ⟨acc, D', rfl, h1, h2⟩ hd
    show LeavesK _ _ _ _ _ _ _
    rw [h2]
    exact put_fell h1 hbD hd (by have := hz1.out; omega) _ rfl
end Go.Proofs.YtdfmnjoklehifaaDoor.Bk.Rp
