/- Package ent: a text without blanks at its ends, and with one where there are several: its words, one behind another. -/
import Derived.Test.YtpkbcomdkamglaaDoorEnFld
import Derived.RangeFuncWrites
set_option linter.unusedSimpArgs false
set_option linter.unusedVariables false
namespace Go.Proofs.YtpkbcomdkamglaaDoor
open Go.ChangeShapes Go.WideShapes Go.ChangeAt Go.RowKit Go.Shelf
open En
attribute [local go_sem] Oper.semAt_some
theorem bd_own {B b : Nat} {l : List UInt8} {W W' : World} {row : Option Nat} (h : Bd B b l W) (hg : W.grownBy W' row) (hr : ∀ r, row = some r → ∃ o : Obj, W.heap[r]? = some o ∧ o.isCells = false) : Bd B b l W' := by
  have key : ∀ p, Lib.BuilderAtF 39 5 B b p (Lib.byteCells l) W → Lib.BuilderAtF 39 5 B b p (Lib.byteCells l) W' := fun p q => by
    obtain ⟨hB, v, hb, hown, hne⟩ := q
    refine ⟨hB, v, (grownBy_keeps_cells hg hr hb rfl).trans hb, World.ownsRowF.kept hown hg ?_, hne⟩
    cases hv : v.ownBlock with
    | none => exact Or.inl rfl
    | some g =>
      refine Or.inr (fun e => ?_)
      obtain ⟨c, fz, hc⟩ := Lib.ownsRowF_kind hown g hv
      obtain ⟨o, ho, ho2⟩ := hr g e.symm
      rw [hc] at ho
      cases ho
      cases ho2
  exact h.elim (fun q => .inl (key _ q)) (fun q => .inr (key _ q))
theorem bd_block {B b : Nat} {l : List UInt8} {W : World} (h : Bd B b l W) : ∃ cs, W.heap[b]? = some (.cells cs 39 (0, 0)) := by
  rcases h with q | q
  · obtain ⟨_, v, hb, _⟩ := q; exact ⟨_, hb⟩
  · obtain ⟨_, v, hb, _⟩ := q; exact ⟨_, hb⟩
theorem keepsFrom_of {B b : Nat} {l l' : List UInt8} {C : Nat} {W W' : World} (h : Bd B b l W) (k : Wrote B b l' W W') : KeepsFrom C W W' := by
  obtain ⟨cs, hbk⟩ := bd_block h
  refine ⟨k.below.size, fun i o _ hi ho => k.others i o hi (fun e => ?_) (fun c fz e => by rw [e] at ho; cases ho)⟩
  cases e
  rw [hbk] at hi
  cases hi
  cases ho
theorem kpL_of {B b n f : Nat} {l l' x : List UInt8} {W W' : World} (h : Bd B b l W) (k : Wrote B b l' W W') (hn : Bs n x W) (hf : Bl f W) (hE : ∀ j ∈ [0, 1, 4], j < B) : KpL (own5 n f) W W' ∧ Bs n x W' ∧ Bl f W' := by
  obtain ⟨cs, hbk⟩ := bd_block h
  have h1 : Bs n x W' := k.others n _ hn (fun e => by cases e; unfold Bs at hn; rw [hbk] at hn; cases hn) (fun c fz e => by cases e)
  have h2 : Bl f W' := k.others f _ hf (fun e => by cases e; unfold Bl at hf; rw [hbk] at hf; cases hf) (fun c fz e => by cases e)
  refine ⟨fun j hj => ?_, h1, h2⟩
  simp only [List.mem_cons, List.not_mem_nil, or_false] at hj
  rcases hj with rfl | rfl | hj
  · exact Eq.trans h1 hn.symm
  · exact Eq.trans h2 hf.symm
  · exact k.below.block j (hE j (by simpa using hj))
theorem bstr_k (B b : Nat) (l : List UInt8) (w : World) (h : Bd B b l w) (hBw : B ≤ w.heap.size) :
    Calls Tryd.prog 20 #[.pointer (some ⟨b, 0, none⟩)] w fun e w' => e = .returned (.string ⟨l.toArray⟩) ∧ Below B w w' ∧ Lib.OthersKept 5 (some b) w w' :=
  (Tryd.Builder_String_any_k B b l w h hBw).mono fun e w' ⟨h1, _, h2, h3⟩ => ⟨h1, h2, h3⟩
theorem jn_len : ∀ (ws : List Wd), (jn (ws1 ws)).length ≤ 200001 * ws.length := by
  intro ws
  have key : ∀ (ws : List Wd) (acc : List UInt8), ((ws1 ws).foldl addW acc).length ≤ acc.length + 200001 * ws.length := by
    intro ws
    induction ws with
    | nil => intro acc; simp [ws1]
    | cons x ws ih =>
      intro acc
      have := ih (addW acc x.1)
      have h2 : (addW acc x.1).length ≤ acc.length + 200001 := by
        unfold addW
        have := x.2.2
        split
        · omega
        · simp; omega
      show ((ws1 ws).foldl addW (addW acc x.1)).length ≤ _
      rw [List.length_cons]; omega
  have := key ws []
  unfold jn
  simpa using this
set_option maxRecDepth 100000 in
set_option maxHeartbeats 4000000 in
theorem trim_any (l : List UInt8) (w : World) (hE : Env w) (hl : l.length ≤ 200000) : Calls Tryd.prog 11 #[.string ⟨l.toArray⟩] w fun e w' => e = .returned (.string ⟨(tr l).toArray⟩) ∧ Kept w w' := by
  have B0 := Lib.hid (bd_new w)
  have K0 := Lib.hid ((Kept.refl w).alloc (.cells #[.pointer none, .slice none 0 0] 39))
  have hsz0 : (w.alloc (.cells #[.pointer none, .slice none 0 0] 39)).heap.size = w.heap.size + 1 := by simp
  have hlts := hE.lts
  refine (callsIn_wide (n := 5)).1 ?_
  refine callsIn_of_wp_marks Tryd.func11 rfl trivial ?_ rfl
  simp only [Tryd.ntmps11, List.size_toArray, List.length_cons, List.length_nil, Nat.reduceAdd, Nat.reduceSub, Array.replicate_succ, Array.replicate_zero, List.push_toArray, List.append_toArray, List.nil_append, List.cons_append]
  gi_wp2_with fail
  refine ⟨trivial, ?_⟩
  refine (callsIn_wide.2 (fields_any l _)).mono ?_
  rintro e w1 ⟨n, f, rfl, Bn, Bf, k1, n1, f1⟩
  have B1 := B0.out.kept k1
  have K1 := K0.out.trans k1
  have E1 := hE.kept K1
  rw [hsz0] at n1 f1
  clear hsz0 B0 K0 k1
  gi_wp2
  have ln := Bn.lt
  have lf := Bf.lt
  have hs1 := K1.size
  have hseq := fields_stops 4 (by omega) l hl n f w1 E1 Bn Bf
  have hglob : ∀ j ∈ [0, 1, 4], j < w.heap.size := fun j hj => by
    simp only [List.mem_cons, List.not_mem_nil, or_false] at hj
    rcases hj with rfl | rfl | rfl
    · exact hlts.1
    · exact hlts.2.1
    · exact hlts.2.2
  have hown : ∀ k ∈ own5 n f, k < w1.heap.size := fun k hk => by
    simp only [List.mem_cons, List.not_mem_nil, or_false] at hk
    have := E1.lts
    rcases hk with rfl | rfl | rfl | rfl | rfl
    · exact ln
    · exact lf
    · exact this.1
    · exact this.2.1
    · exact this.2.2
  refine wpIn_rangeFunc_ownG rfl (by omega) (gf := 37) (lb := #[.pointer (some ⟨n, 0, none⟩), .pointer (some ⟨f, 0, none⟩)]) rfl trivial (enters_of Tryd.func37 (by kernel_rfl) rfl)
    hseq kpL_t (kpL_b hown) (Below.refl _ _) (fun _ => rfl)
    (fun pre W => (Bd w.heap.size w.heap.size (jn (ws1 pre)) W ∧ Bs n l W ∧ Bl f W) ∧ Below w.heap.size w W)
    (fun _ _ _ => False)
    (OwnFrom.and (Own.from (fun s A B row hs hg hr => ⟨bd_own hs.1 hg hr, (grownBy_keeps_cells hg hr hs.2.1 rfl).trans hs.2.1, (grownBy_keeps_cells hg hr hs.2.2 rfl).trans hs.2.2⟩) _) (ownFrom_below (Nat.le_refl _) K1.size))
    (fun _ _ _ _ _ hs _ _ => hs)
    ⟨⟨B1, Bn, Bf⟩, K1.below (Nat.le_refl _)⟩
    (fun x => { tmps := #[.string ⟨l.toArray⟩, undef, .string ⟨#[]⟩, .pointer (some ⟨w.heap.size, 0, none⟩), .string ⟨x.1.toArray⟩, .string ⟨l.toArray⟩, .func (.func 37) #[] #[.pointer (some ⟨n, 0, none⟩), .pointer (some ⟨f, 0, none⟩)], .string ⟨x.1.toArray⟩, undef, undef, undef, undef, undef, undef], defers := [] }) ?assign ?body ?done ?stop
  case assign =>
    intro lo x W K hK
    gi_wp2
    exact hK
  case body =>
    rintro lo pre x W ⟨⟨hg, hn, hf⟩, hB⟩ hpre
    have hjl := jn_len pre
    have hxl := x.2.2
    have hsn := jn_snoc (ws1 pre) x.1
    have hsn2 : jn (ws1 (pre ++ [x])) = addW (jn (ws1 pre)) x.1 := by
      unfold ws1 at hsn ⊢
      rw [List.map_append]; exact hsn
    have HS2 := Lib.hid hsn2
    clear hsn hsn2
    generalize jn (ws1 pre) = acc at *
    have HG := Lib.hid hg
    have hBs := hB.size
    clear hg
    gi_wp2_with fail
    refine ⟨trivial, ?_⟩
    refine (CallsIn.inRound lo (callsIn_wide.2 (blen_any w.heap.size w.heap.size acc W HG.out))).mono ?_
    rintro e W1 ⟨rfl, rfl⟩
    by_cases hacc : acc = []
    · subst hacc
      gi_wp2_with fail
      refine ⟨trivial, ?_⟩
      refine (CallsIn.inRound lo (callsIn_wide.2 (wstr_any w.heap.size w.heap.size [] x.1 W HG.out (by simp; omega) hBs))).mono ?_
      rintro e W2 ⟨rfl, q2⟩
      obtain ⟨a1, a2, a3⟩ := kpL_of HG.out q2 hn hf hglob
      have a4 : KeepsFrom w1.heap.size W W2 := keepsFrom_of HG.out q2
      gi_wp2
      refine ⟨a4, a1, ⟨?_, a2, a3⟩, hB.trans q2.below⟩
      rw [HS2.out]
      exact q2.bd
    · have hp0 : (0 : Int) < acc.length := by have := List.length_pos_iff.2 hacc; omega
      gi_wp2_with fail
      refine ⟨trivial, ?_⟩
      refine (CallsIn.inRound lo (callsIn_wide.2 (wbyte_any w.heap.size w.heap.size acc 32 W HG.out (by omega) hBs))).mono ?_
      rintro e W2 ⟨rfl, q2⟩
      obtain ⟨a1, a2, a3⟩ := kpL_of HG.out q2 hn hf hglob
      have a4 : KeepsFrom w1.heap.size W W2 := keepsFrom_of HG.out q2
      gi_wp2_with fail
      refine ⟨trivial, ?_⟩
      refine (CallsIn.inRound lo (callsIn_wide.2 (wstr_any w.heap.size w.heap.size (acc ++ [32]) x.1 W2 q2.bd (by simp; omega) (hB.trans q2.below).size))).mono ?_
      rintro e W3 ⟨rfl, q3⟩
      obtain ⟨b1, b2, b3⟩ := kpL_of q2.bd q3 a2 a3 hglob
      have b4 : KeepsFrom w1.heap.size W W3 := a4.trans (keepsFrom_of q2.bd q3)
      gi_wp2
      refine ⟨b4, kpL_t a1 b1, ⟨?_, b2, b3⟩, (hB.trans q2.below).trans q3.below⟩
      have e : addW acc x.1 = acc ++ [32] ++ x.1 := by unfold addW; rw [if_neg hacc]; simp
      rw [HS2.out, e]; exact q3.bd
  case done =>
    rintro D ys W hD hys ⟨⟨hg, hn, hf⟩, hB⟩ hK
    rw [hys] at hg
    have HT := Lib.hid (tr_words l)
    have hBs := hB.size
    gi_wp2_with fail
    refine ⟨trivial, ?_⟩
    refine (callsIn_wide.2 (bstr_k w.heap.size w.heap.size (jn (words l)) W hg hBs)).mono ?_
    rintro e W2 ⟨rfl, b2, o2⟩
    have hBD := hB.trans b2
    have hbk := bd_block hg
    have hK2 : W2.heap[D]? = some (.deferred (some [])) := o2 D _ hK (fun e => by cases e; obtain ⟨cs, hbk⟩ := hbk; rw [hK] at hbk; cases hbk) (fun c fz e => by cases e)
    have hBE := hBD.trans (belowK_b (w := w) (Nat.le_refl _) W2 D _ (.deferred none) (by omega) hK2 rfl rfl)
    clear hg hbk
    gi_wp2
    refine ⟨by simp, .inl ⟨_, _, rfl, run_takeDeferred hK2, ?_⟩⟩
    exact ⟨_, results_tmp rfl _ _ _, by rw [HT.out]; rfl, Kept.of_below hBE⟩
  case stop =>
    rintro D c pre W _ _ h _
    exact h.elim
end Go.Proofs.YtpkbcomdkamglaaDoor
