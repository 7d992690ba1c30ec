/- Package reply: Put behind bytes that are none, and on nil; Read. -/
import Derived.Test.YtdfmnjoklehifaaDoorRpX
set_option linter.unusedSimpArgs false
set_option linter.unusedVariables false
namespace Go.Proofs.YtdfmnjoklehifaaDoor.Bk.Rp
open Go.ChangeShapes Go.WideShapes Go.ChangeAt Go.RowKit Go.Shelf
set_option maxRecDepth 100000 in
set_option maxHeartbeats 4000000 in
theorem put_no (p bv : Value) (w : World) (hp : p.oneCell' = true) (h1 : bv.oneCell' = true) (hB : ∀ W, Kept w W → Calls Tryd.prog 20 #[p] W fun e w' => e = .returned (.bool true) ∧ W = w') :
    Calls Tryd.prog 18 #[p, bv] w fun e w' => e = .returned (.slice none 0 0) ∧ Kept w w' := by
  have K0 := Lib.hid (((Kept.refl w).alloc (.cells #[p] 38)).alloc (.cells #[.slice none 0 0] 32))
  have B0 := Lib.hid ((Bv.new w p 38).kept ((Kept.refl _).alloc (.cells #[.slice none 0 0] 32)))
  have B1 := Bv.new (w.alloc (.cells #[p] 38)) (.slice none 0 0) 32
  simp only [World.size_alloc] at B1
  replace B1 := Lib.hid B1
  have HB := Lib.hid hB
  clear hB
  refine callsIn_wide.1 (callsK_of (n := 9) Tryd.func18 rfl ?_)
  simp only [Tryd.ntmps18, List.size_toArray, List.length_cons, List.length_nil, Nat.reduceAdd, Nat.reduceSub, Array.replicate_succ, Array.replicate_zero, List.push_toArray, List.append_toArray, List.nil_append, List.cons_append]
  refine wpK_seq_k (fun K hK => ?_)
  gi_wp2
  generalize (w.alloc (.cells #[p] 38)).alloc (.cells #[.slice none 0 0] 32) = W0 at *
  obtain ⟨n, hn⟩ : ∃ n, n = w.heap.size := ⟨_, rfl⟩
  have HN := Lib.hid hn
  rw [← hn] at B0 B1 ⊢
  clear hn
  refine wpK_seq_k (fun K hK => ?_)
  have n0 := B0.out.c
  gi_wp2_with fail
  refine ⟨trivial, ?_⟩
  refine (callsIn_wide.2 (HB.out W0 K0.out)).mono ?_
  rintro e w1 ⟨rfl, rfl⟩
  have f1 := B1.out.frz
  have n1 := B1.out.c
  have B2 := Lib.hid (B1.out.set (.slice none 0 0))
  have K2 := Lib.hid (K0.out.setCell (a := ⟨n + 1, 0, none⟩) (by show w.heap.size ≤ n + 1; have := HN.out; omega) (.slice none 0 0))
  gi_wp2
  generalize W0.setCell ⟨n + 1, 0, none⟩ (.slice none 0 0) = W1 at *
  refine ⟨_, put_results (n + 1) _ W1 _ rfl rfl B2.out.c, rfl, K2.out⟩
set_option maxRecDepth 100000 in
theorem put_bad (b : Nat) (bv : Value) (w : World) (h1 : bv.oneCell' = true) (h : RdB b true 0 (.slice none 0 0) [] w) :
    Calls Tryd.prog 18 #[pV b, bv] w fun e w' => e = .returned (.slice none 0 0) ∧ Kept w w' :=
  put_no (pV b) bv w rfl h1 (fun W k => bad_any b true 0 (.slice none 0 0) [] W (h.kept k))
theorem put_nil (bv : Value) (w : World) (h1 : bv.oneCell' = true) :
    Calls Tryd.prog 18 #[.pointer none, bv] w fun e w' => e = .returned (.slice none 0 0) ∧ Kept w w' :=
  put_no (.pointer none) bv w rfl h1 (fun W _ => bad_nil W)
/-! Put, whatever a reader holds -/
theorem RS.new {w w' : World} (h : RdB w.heap.size false 0 (.slice none 0 0) [] w') (hz : w'.heap.size = w.heap.size + 1) : RS (w.heap.size + 1) w.heap.size (some (0, [], [])) w' := ⟨by omega, by omega, _, h, OwnS.nil _ _⟩
theorem RS.kept {D b : Nat} {o : Option St} {w w' : World} (h : RS D b o w) (k : Kept w w') : RS D b o w' := by
  obtain ⟨g1, g2, g3⟩ := h
  refine ⟨g1, Nat.le_trans g2 k.size, ?_⟩
  cases o with
  | none => exact RdB.kept g3 k
  | some s =>
    obtain ⟨lv, q1, q2⟩ := g3
    exact ⟨lv, q1.kept k, OwnS.kept q2 k⟩
theorem _root_.Go.Proofs.YtdfmnjoklehifaaDoor.Kept.bo {w x y : World} (k : Kept w x) {D b : Nat} (h : Bo D b x y) (hD : w.heap.size ≤ D) (hb : w.heap.size ≤ b) : Kept w y :=
  ⟨h.os.trans k.os, h.output.trans k.output, Nat.le_trans k.size h.size, fun j hj => (h.block j (by omega) (by omega)).trans (k.block j hj), h.tape.trans k.tape⟩
theorem EX.bo' {D b : Nat} {w w' : World} (h : EX w) (k : Bo D b w w') (h1 : 8 ≤ b) (h2 : b < D) : EX w' := h.bo k h1 (by omega)
/-- a reader may be so -/
def okO : Option St → Prop
  | none => True
  | some s => okS s.1 s.2.1 ∧ s.2.2.length < 512
theorem okO_new : okO (some (0, [], [])) := ⟨okS_nil _, by simp⟩
theorem okO_put {o : Option St} (h : okO o) (bs : B) : okO (put o bs).1 := by
  cases o with
  | none => trivial
  | some s =>
    obtain ⟨h1, h2⟩ := h
    have := (run_back _ (s.2.2 ++ bs) (Nat.le_refl _) s.1 s.2.1 h1).2
    show okO (run s.1 s.2.1 (s.2.2 ++ bs)).1
    cases hr : (run s.1 s.2.1 (s.2.2 ++ bs)).1 with
    | none => trivial
    | some s' =>
      obtain ⟨a, _, b, _⟩ := this s' hr
      exact ⟨a, b⟩
theorem okO_left {o : Option St} (h : okO o) : left o ≤ 52000 := by
  cases o with
  | none => simp [left]
  | some s =>
    obtain ⟨⟨h1, h2, _⟩, h3⟩ := h
    have := sumL_le h2
    simp only [left]; omega
theorem put_o (D b : Nat) (o : Option St) (bs : B) (bv : Value) (w : World) (hS : RS D b o w) (hR : BRd bv bs w) (hE : EX w) (h8 : 8 ≤ b) (hok : okO o) (hbs : bs.length ≤ 1000000) :
    Calls Tryd.prog 18 #[pV b, bv] w (PutP D b (put o bs) w) := by
  cases o with
  | none =>
    have h1 : bv.oneCell' = true := by
      obtain ⟨a, c, rfl⟩ := hR.slice
      rfl
    refine (put_bad b bv w h1 hS.2.2).mono ?_
    rintro e w' ⟨rfl, k⟩
    exact ⟨_, D, rfl, Nat.le_refl _, RpU.nil _ _ _, hS.kept k, Bo.of k hS.2.1, fun j cs hj => (k.block j (Array.getElem?_eq_some_iff.1 hj).1).trans hj⟩
  | some s => exact put_any D b s bs bv w hS hR hE h8 hok.1 (by have := hok.2; omega) hbs
theorem bad_o (D b : Nat) (o : Option St) (w : World) (hS : RS D b o w) : Calls Tryd.prog 20 #[pV b] w fun e w' => e = .returned (.bool o.isNone) ∧ w = w' := by
  cases o with
  | none => exact bad_any b _ _ _ _ w hS.2.2
  | some s =>
    obtain ⟨_, _, lv, h, _⟩ := hS
    exact bad_any b _ _ _ _ w h
theorem left_o (D b : Nat) (o : Option St) (w : World) (hS : RS D b o w) (hok : okO o) : Calls Tryd.prog 21 #[pV b] w fun e w' => e = .returned (iV ((left o : Nat) : Int)) ∧ w = w' := by
  have hl := okO_left hok
  cases o with
  | none => exact left_any b _ _ _ [] _ w hS.2.2 (OwnS.nil 0 w).rd (by simp [sumL]) (by simp)
  | some s =>
    obtain ⟨_, _, lv, h, hO⟩ := hS
    have := hok.1.1
    simp only [left] at hl
    exact left_any b _ _ _ s.2.1 s.2.2 w h hO.rd (by omega) (by omega)
set_option maxRecDepth 100000 in
set_option maxHeartbeats 4000000 in
theorem read_any (bs : B) (bv : Value) (w : World) (hR : BRd bv bs w) (hE : EX w) (hbs : bs.length ≤ 1000000) :
    Calls Tryd.prog 12 #[bv] w fun e w' => ∃ v, e = .returned (.tuple #[v, iV (rdE bs)]) ∧ RpRd v (rdR bs) w' ∧ Kept w w' := by
  have hsz : 8 ≤ w.heap.size := hE.b0
  obtain ⟨va, vc, rfl⟩ := hR.slice
  have V0 := Lib.hid hR
  have E0 := Lib.hid hE
  obtain ⟨N, hN⟩ : ∃ N, N = rdE bs := ⟨_, rfl⟩
  obtain ⟨M, hM⟩ : ∃ M, M = rdR bs := ⟨_, rfl⟩
  rw [← hN, ← hM]
  have HN := Lib.hid hN
  have HM := Lib.hid hM
  clear hR hE hN hM
  go_enter Tryd.func12, Tryd.ntmps12
  go_upto_region 1 with (fail)
  go_wp2_with fail
  refine (new_any w).mono ?_
  rintro e w1 ⟨rfl, hr1, k1, hz1⟩
  have S1 := Lib.hid (RS.new hr1 hz1)
  have K1 := Lib.hid k1
  have V1 := Lib.hid (V0.out.kept k1)
  have E1 := Lib.hid (E0.out.kept k1)
  clear hr1 k1
  go_wp2_with fail
  refine (put_o _ _ _ bs _ w1 S1.out V1.out E1.out hsz okO_new hbs).mono ?_
  rintro e w2 ⟨v, D', rfl, hD, hU, hS2, hB, _⟩
  have KB := Lib.hid (K1.out.bo hB (by omega) (Nat.le_refl _))
  have U2 := Lib.hid hU
  have S2 := Lib.hid hS2
  have hok : okO (put (some (0, [], [])) bs).1 := okO_put okO_new bs
  have HO := Lib.hid hok
  have hle := okO_left hok
  have HE0 : rdE bs = if ∃ s, (run 0 [] bs).1 = some s ∧ left (some s) = 0 then 0 else 2 := rfl
  have HR0 : rdR bs = if rdE bs = 0 then (run 0 [] bs).2 else [] := rfl
  obtain ⟨oa, oc, rfl⟩ := hU.rd.slice
  rw [show put (some (0, [], [])) bs = run 0 [] bs from rfl] at *
  generalize run 0 [] bs = O at *
  obtain ⟨o, l⟩ := O
  clear hU hS2 hB S1 K1 E1 V1 hok
  cases o with
  | none =>
    have e2 : rdE bs = 2 := by rw [HE0, if_neg (by rintro ⟨s, h, _⟩; cases h)]
    have e3 : rdR bs = [] := by rw [HR0, e2]; rfl
    have HE := Lib.hid (HN.out.trans e2)
    have HR := Lib.hid (HM.out.trans e3)
    clear HE0 HR0 e2 e3
    go_wp2_with fail
    refine (bad_o _ _ _ w2 S2.out).mono ?_
    rintro e w3 ⟨rfl, rfl⟩
    go_wp2_with fail
    go_ret2
    exact ⟨.slice none 0 0, by rw [HE.out]; rfl, by rw [HR.out]; exact RpRd.nil _, KB.out⟩
  | some s =>
    by_cases hz : left (some s) = 0
    · have e2 : rdE bs = 0 := by rw [HE0, if_pos ⟨s, rfl, hz⟩]
      have e3 : rdR bs = l := by rw [HR0, e2]; rfl
      have hzI : ¬ (0 < ((left (some s) : Nat) : Int)) := by omega
      have HE := Lib.hid (HN.out.trans e2)
      have HR := Lib.hid (show RpRd (.slice oa l.length oc) M w2 by rw [HM.out.trans e3]; exact U2.out.rd)
      clear HE0 HR0 e2 e3 hz
      go_wp2_with fail
      refine (bad_o _ _ _ w2 S2.out).mono ?_
      rintro e w3 ⟨rfl, rfl⟩
      go_wp2_with fail
      refine (left_o _ _ _ w2 S2.out HO.out).mono ?_
      rintro e w3 ⟨rfl, rfl⟩
      go_wp2_with fail
      go_ret2
      exact ⟨_, by rw [HE.out]; rfl, HR.out, KB.out⟩
    · have e2 : rdE bs = 2 := by rw [HE0, if_neg (by rintro ⟨s', h, h2⟩; cases h; exact hz h2)]
      have e3 : rdR bs = [] := by rw [HR0, e2]; rfl
      have hzI : 0 < ((left (some s) : Nat) : Int) := by omega
      have HE := Lib.hid (HN.out.trans e2)
      have HR := Lib.hid (HM.out.trans e3)
      clear HE0 HR0 e2 e3 hz
      go_wp2_with fail
      refine (bad_o _ _ _ w2 S2.out).mono ?_
      rintro e w3 ⟨rfl, rfl⟩
      go_wp2_with fail
      refine (left_o _ _ _ w2 S2.out HO.out).mono ?_
      rintro e w3 ⟨rfl, rfl⟩
      go_wp2_with fail
      go_ret2
      exact ⟨.slice none 0 0, by rw [HE.out]; rfl, by rw [HR.out]; exact RpRd.nil _, KB.out⟩
end Go.Proofs.YtdfmnjoklehifaaDoor.Bk.Rp
