/- The document's own answers of layer ident: keys, and which entries are fresh. -/
import Derived.Test.YtpkkpjonlogliaaDoorIdR
import Derived.Laws.OwnMore
set_option linter.unusedSimpArgs false
set_option linter.unusedVariables false
namespace Go.Proofs.YtpkkpjonlogliaaDoor
open Go.ChangeShapes Go.WideShapes Go.ChangeAt Go.RowKit
open En Idn
set_option maxRecDepth 100000 in
set_option maxHeartbeats 4000000 in
theorem rkey_any (e : Ent) (w : World) (hl : Sm5 100000 e) : Calls Tryd.prog 11 #[entV e] w fun r w' => r = .returned (.string ⟨(key e).toArray⟩) ∧ Kept w w' := by
  have HK1 := Lib.hid (fun h => key_id (e := e) h)
  have HK2 := Lib.hid (fun h h2 => key_link (e := e) h h2)
  have HK3 := Lib.hid (fun h h2 => key_title (e := e) h h2)
  obtain ⟨l1, l2, l3, l4⟩ := hl
  obtain ⟨a1, a2, a3, a4, a5⟩ := e
  simp only at l1 l2 l3 l4 HK1 HK2 HK3
  have B0 := Lib.hid (Eb.new w (a1, a2, a3, a4, a5))
  have k0 := (Kept.refl w).alloc (.cells (e5 (a1, a2, a3, a4, a5)) 28)
  have K0 := Lib.hid k0
  have HN1 := Lib.hid (fun w => rnorm_any a1 w l1)
  have HN3 := Lib.hid (fun w => rnorm_any a3 w l3)
  have n1 := norm_len a1
  have n3 := norm_len a3
  generalize norm a1 = x1 at *
  generalize norm a3 = x3 at *
  generalize key (a1, a2, a3, a4, a5) = z at *
  clear k0
  go_enter Tryd.func11, Tryd.ntmps11
  go_upto_region 1 with (fail)
  rw [show w.alloc (.cells #[.string ⟨a1.toArray⟩, .string ⟨a2.toArray⟩, .string ⟨a3.toArray⟩, .string ⟨a4.toArray⟩, .int .i64 a5] 28) = w.alloc (.cells (e5 (a1, a2, a3, a4, a5)) 28) from rfl]
  generalize hb : w.heap.size = b at *
  generalize w.alloc (.cells (e5 (a1, a2, a3, a4, a5)) 28) = y0 at *
  clear hb
  obtain ⟨c0, c1, c2, c3, c4⟩ := B0.out.cells
  simp only at c0 c1 c2
  go_wp2_with fail
  refine (HN1.out _).mono ?_
  rintro e y1 ⟨rfl, k1⟩
  have K1 := Lib.hid (K0.out.trans k1)
  have B1 := Lib.hid (B0.out.kept k1)
  clear c0 c1 c2 c3 c4 B0 k1
  obtain ⟨c0, c1, c2, c3, c4⟩ := B1.out.cells
  simp only at c0 c1 c2
  go_wp2_with fail
  refine (HN3.out _).mono ?_
  rintro e y2 ⟨rfl, k2⟩
  have K2 := Lib.hid (K1.out.trans k2)
  have B2 := Lib.hid (B1.out.kept k2)
  clear c0 c1 c2 c3 c4 B1 k2 K1
  obtain ⟨c0, c1, c2, c3, c4⟩ := B2.out.cells
  simp only at c0 c1 c2
  by_cases h1 : x1 = []
  · have he1 : x1.isEmpty = true := by simp [h1]
    have h1' := h1
    clear h1
    by_cases h3 : x3 = []
    · have he3 : x3.isEmpty = true := by simp [h3]
      have HZ := Lib.hid (HK3.out h1' h3)
      clear h3 h1' HK1 HK2 HK3
      go_wp2
      go_ret
      exact ⟨by rw [HZ.out]; show Ending.returned (Value.string (⟨[116].toArray⟩ ++ ⟨a2.toArray⟩)) = _; rw [str_app]; rfl, K2.out⟩
    · have he3 : x3.isEmpty = false := by simpa using h3
      have HZ := Lib.hid (HK2.out h1' h3)
      clear h3 h1' HK1 HK2 HK3
      go_wp2
      go_ret
      exact ⟨by rw [HZ.out]; show Ending.returned (Value.string (⟨[108].toArray⟩ ++ ⟨x3.toArray⟩)) = _; rw [str_app]; rfl, K2.out⟩
  · have he1 : x1.isEmpty = false := by simpa using h1
    have HZ := Lib.hid (HK1.out h1)
    clear h1 HK1 HK2 HK3
    go_wp2
    go_ret
    exact ⟨by rw [HZ.out]; show Ending.returned (Value.string (⟨[105].toArray⟩ ++ ⟨x1.toArray⟩)) = _; rw [str_app]; rfl, K2.out⟩
theorem OwnS.rd {B0 : Nat} {v : Value} {ls : List B} {w : World} (h : OwnS B0 v ls w) : TxRd v ls w := by
  rcases h.2 with ⟨h1, h2⟩ | ⟨g, cap, cur, h1, q2, q3, hc, h4⟩
  · have : ls = [] := List.length_eq_zero_iff.1 h2
    subst this
    exact ⟨none, 0, h1, fun _ => rfl, fun q => absurd rfl q⟩
  · refine ⟨some ⟨g, 0, none⟩, cap, h1, (fun q => by cases q), fun _ => ⟨g, 0, rfl, hc, fun i s hs => ?_⟩⟩
    have h' := h
    unfold OwnS at h'
    rw [h1] at h'
    have hi := (List.getElem?_eq_some_iff.1 hs).1
    rw [Nat.zero_add, World.ownsRow.cellAt h' i (by omega), List.getElem?_map, hs]
    rfl
theorem eq_txt (a b : List UInt8) : ((ByteArray.mk a.toArray) == (ByteArray.mk b.toArray)) = decide (a = b) := ba_beq a b
set_option maxRecDepth 100000 in
set_option maxHeartbeats 2000000 in
theorem rhas_any (v : Value) (l : List B) (x : B) (w : World) (h : TxRd v l w) (hl : l.length ≤ 1000000) : Calls Tryd.prog 17 #[v, sV x] w fun e w' => e = .returned (.bool (decide (x ∈ l))) ∧ w = w' := by
  obtain ⟨a, c, hv⟩ := h.slice
  subst hv
  have H := Lib.hid h
  clear h
  go_enter Tryd.func17, Tryd.ntmps17
  go_wp2_with fail
  go_loopw [5] (fun vi wr => ∃ i : Nat, i ≤ l.length ∧ vi = .int .i64 i ∧ wr = w ∧ Hid (x ∉ l.take i)) (fun vi _ => l.length - (intOf vi).toNat)
  case atStart => exact ⟨0, Nat.zero_le _, rfl, rfl, Lib.hid (by simp)⟩
  case round =>
    obtain ⟨i, hi, rfl, rfl, hN⟩ := hrel
    by_cases hlt : i < l.length
    · have hltI : (i : Int) < l.length := by omega
      obtain ⟨s, hs⟩ : ∃ s, l[i]? = some s := ⟨_, List.getElem?_eq_getElem hlt⟩
      obtain ⟨-, g, o, rfl, hc, p0⟩ := H.out.at hs
      by_cases he : s = x
      · subst he
        have HR := Lib.hid (show decide (s ∈ l) = true from decide_eq_true (List.mem_of_getElem? hs))
        clear hs hN
        go_wp2
        go_ret
        exact ⟨by rw [HR.out]; rfl, rfl⟩
      · have HN2 := Lib.hid (show x ∉ l.take (i + 1) by
          rw [List.take_add_one, hs, List.mem_append]
          rintro (q | q)
          · exact hN.out q
          · simp at q; exact he q.symm)
        have hb1 : (s == x) = false := by simpa using he
        clear hs hN he
        go_wp2
        go_roundw
        case rel => exact ⟨i + 1, hlt, by go_num, trivial, HN2⟩
        case measure => simp [intOf]; omega
    · have HR := Lib.hid (show decide (x ∈ l) = false from decide_eq_false (by have := hN.out; rwa [List.take_of_length_le (by omega)] at this))
      go_wp2
      go_ret
      exact ⟨by rw [HR.out]; rfl, rfl⟩
/-- a list of texts, copied -/
theorem wpl_copyT {ops : Array Oper} {rest : List Oper} {o : Oper} {a : Act} {w : World} {Q : Exit → Act → World → Prop} (hg : o.guard = none) (sx x : Operand) (ho : o.op = .call { callee := .builtin .append, args := #[sx, x], argTypes := #[22, 22] })
    (hs : a.eval sx = .slice none 0 0) (v : Value) (ls : List B) (hx : a.eval x = v) (hR : TxRd v ls w) (hl : ls.length ≤ 1000)
    (h : ∀ v' w', OwnS w.heap.size v' ls w' → w.grownBy w' none → wpList Tryd.prog ops Q rest (a.put o.dst v') w') : wpList Tryd.prog ops Q (o :: rest) a w := by
  obtain ⟨i0, hi, hz0, hz1, hz2⟩ := info_parts infoS
  obtain ⟨ad, c, hv, hz, hcs⟩ := hR
  cases ad with
  | none =>
    have hc0 := hz rfl
    have hls : ls = [] := by
      cases ls with
      | nil => rfl
      | cons s l => obtain ⟨g, o1, e, _⟩ := hcs (by simp); cases e
    subst hls hc0
    refine wpList_plain hg fun K' hK' => ?_
    have hrun := run_append_owned_none (P := Tryd.prog) (w := w) w.heap.size 22 o.type 9 i0 1 Tryd.underlying22 hi (.slice none 0 0) 0 [] (World.ownsRow_nil _ _ _ _)
    have hK := h (.slice none 0 0) w (World.ownsRow_nil _ _ _ _) ⟨rfl, rfl, rfl, Nat.le_refl _, fun _ _ _ => rfl⟩
    unfold Oper.wp
    rw [hv] at hx
    simp [execOp, ho, resolve, invoke, builtin, hs, hx, hrun, Result.andThen]
    exact hK' _ _ hK
  | some ad =>
    refine wpList_append_own _ hg sx x 22 ho w.heap.size 9 i0 _ 1 16 Tryd.underlying22 hi hz0 hz1 hz2 rfl (by decide) _ 0 [] hs (World.ownsRow_nil _ _ _ _) ad ls.length c (ls.map sV) (hx.trans hv) (by simp) (fun j u hj => ?_) (fun u hu => by rw [List.mem_map] at hu; obtain ⟨y, _, rfl⟩ := hu; rfl) (by unfold maxLen; omega) (by omega) (Nat.le_refl _) ?_
    · rw [List.getElem?_map, Option.map_eq_some_iff] at hj
      obtain ⟨s, hsj, rfl⟩ := hj
      obtain ⟨g, o1, e, _, hcell⟩ := hcs (fun q => by rw [q] at hsj; simp at hsj)
      cases e
      have := hcell j s hsj
      rwa [Addr.add_lit]
    · intro v' w' h2 h3 _
      refine h v' w' ?_ h3
      unfold OwnS
      simpa using h2
theorem OwnS.kept {B0 : Nat} {v : Value} {ls : List B} {w w' : World} (h : OwnS B0 v ls w) (k : Kept w w') : OwnS B0 v ls w' := own_keep h (k.grownBy none) NoRow.none
theorem OwnS.slice {B0 : Nat} {v : Value} {ls : List B} {w : World} (h : OwnS B0 v ls w) : ∃ a c, v = .slice a ls.length c := own_slice h
theorem OwnS.snoc {B0 : Nat} {v : Value} {ls : List B} {s : B} {w : World} (h : w.ownsRow B0 9 1 v (ls.length + 1) (ls.map sV ++ [sV s])) : OwnS B0 v (ls ++ [s]) w := by
  unfold OwnS
  rw [List.length_append, List.map_append]
  simpa using h
theorem kept_row {w y z : World} {row : Option Nat} (k : Kept w y) (hg : y.grownBy z row) (hr : ∀ g, row = some g → w.heap.size ≤ g) : Kept w z :=
  ⟨hg.os.trans k.os, hg.output.trans k.output, Nat.le_trans k.size hg.size, fun j hj => (hg.block j (Nat.lt_of_lt_of_le hj k.size) (fun e => by have := hr j e.symm; omega)).trans (k.block j hj), hg.tape.trans k.tape⟩
theorem en_news (y : World) (a1 a2 a3 a4 : B) (a5 : Int) (j : Nat) (u : Value) (hj : [sV a1, sV a2, sV a3, sV a4, iV a5][j]? = some u) : (y.alloc (.cells #[sV a1, sV a2, sV a3, sV a4, iV a5] 28)).cell? ((⟨y.heap.size, 0, none⟩ : Addr).add j) = some u := by
  have hcc := fun (j : Nat) (u : Value) (q : #[sV a1, sV a2, sV a3, sV a4, iV a5][j]? = some u) => (Kept.refl (y.alloc (.cells #[sV a1, sV a2, sV a3, sV a4, iV a5] 28))).new j q
  rw [Addr.add_lit, Nat.zero_add]
  exact hcc j u (by simpa using hj)
theorem en_one (a1 a2 a3 a4 : B) (a5 : Int) (u : Value) (hu : u ∈ [sV a1, sV a2, sV a3, sV a4, iV a5]) : u.oneCell' = true := by
  simp at hu
  rcases hu with rfl | rfl | rfl | rfl | rfl <;> rfl
theorem tx_news (y : World) (x : B) (j : Nat) (u : Value) (hj : [sV x][j]? = some u) : (y.alloc (.cells #[sV x] 9)).cell? ((⟨y.heap.size, 0, none⟩ : Addr).add j) = some u := by
  have hcl := Kept.new (Kept.refl (y.alloc (.cells #[sV x] 9))) 0 (show #[sV x][0]? = some (sV x) from rfl)
  match j, hj with
  | 0, hj => simp at hj; subst hj; rw [Addr.add_lit]; exact hcl
theorem tx_one (x : B) (u : Value) (hu : u ∈ [sV x]) : u.oneCell' = true := by simp at hu; subst hu; rfl
set_option maxRecDepth 100000 in
set_option maxHeartbeats 8000000 in
theorem rfresh_any (vk : Value) (K : List (List UInt8)) (v : Value) (l : List Ent) (w : World) (hk : TxRd vk K w) (hkl : K.length ≤ 1000) (h : EnRd v l w) (hs : ∀ e ∈ l, Sm5 100000 e) (hl : l.length ≤ 1000) :
    Calls Tryd.prog 14 #[vk, v] w (FrP K l w) := by
  obtain ⟨a, c, hv2⟩ := h.slice
  subst hv2
  have TK := Lib.hid hk
  have HL := Lib.hid h
  have HS := Lib.hid hs
  clear hk h hs
  obtain ⟨i0, hi0, hy0, hy1, hy2⟩ := info_parts infoE
  obtain ⟨i1, hi1, hx0, hx1, hx2⟩ := info_parts infoS
  go_enter Tryd.func14, Tryd.ntmps14
  go_wp2_with (at_builtin; refine wpl_copyT rfl _ _ rfl rfl _ K rfl TK.out hkl ?_; intro va wa hA hga)
  have KA := Lib.hid (kept_row (Kept.refl w) hga (fun g e => by cases e))
  have OA := Lib.hid (show OwnS w.heap.size va (seen K (l.take 0)) wa by unfold seen; simpa using hA)
  clear hA hga
  go_loopw [5, 6, 7] (fun va vo vi wr => ∃ i : Nat, i ≤ l.length ∧ vi = .int .i64 i ∧ Hid (OwnS w.heap.size va (seen K (l.take i)) wr) ∧ Hid (EnO w.heap.size vo (fr K (l.take i)) wr) ∧ Hid (Kept w wr)) (fun _ _ vi _ => l.length - (intOf vi).toNat)
  case atStart => exact ⟨0, Nat.zero_le _, rfl, OA, Lib.hid (by rw [List.take_zero]; exact EnO.nil _ _), KA⟩
  case round =>
    obtain ⟨i, hi, rfl, hA, hO, hK⟩ := hrel
    by_cases hlt : i < l.length
    · have hltI : (i : Int) < l.length := by omega
      obtain ⟨e, hei⟩ : ∃ e, l[i]? = some e := ⟨_, List.getElem?_eq_getElem hlt⟩
      have HF := Lib.hid (fr_seen (K := K) hei)
      have HT := Lib.hid (show seen K (l.take (i + 1)) = seen K (l.take i) ++ [key e] by unfold seen; rw [map_step hei, List.append_assoc])
      have HSm := Lib.hid (HS.out e (List.mem_of_getElem? hei))
      have hfl := fr_len (l.take i) K
      rw [List.length_take] at hfl
      have hsl : (seen K (l.take i)).length ≤ 2000 := by unfold seen; rw [List.length_append, List.length_map, List.length_take]; omega
      have HKey := Lib.hid (fun w => rkey_any e w HSm.out)
      have hkl2 := key_len HSm.out
      obtain ⟨-, g, o, rfl, hc, p0, p1, p2, p3, p4⟩ := (HL.out.kept hK.out).at hei
      have hei2 := Lib.hid hei
      clear hei
      generalize hkx : key e = x at *
      have HX := Lib.hid hkx
      clear hkx
      go_wp2_with fail
      refine (HKey.out _).mono ?_
      rintro r y1 ⟨rfl, k1⟩
      have A1 := Lib.hid (hA.out.kept k1)
      have O1 := Lib.hid (hO.out.kept k1)
      have K1 := Lib.hid (hK.out.trans k1)
      clear hA hO hK k1 p0 p1 p2 p3 p4 HKey
      obtain ⟨aa, ca, hva⟩ := A1.out.slice
      subst hva
      have AR := Lib.hid A1.out.rd
      have HH := Lib.hid (rhas_any _ (seen K (l.take i)) x y1 A1.out.rd (by omega))
      generalize hSN : seen K (l.take i) = S0 at *
      generalize hS1 : seen K (l.take (i + 1)) = S1 at *
      have HS1 := Lib.hid hS1
      generalize hFR : fr K (l.take i) = F0 at *
      generalize hF1 : fr K (l.take (i + 1)) = F1 at *
      have HF1 := Lib.hid hF1
      clear hSN hFR hF1 hS1 AR
      obtain ⟨-, g', o', hgo, hc', p0, p1, p2, p3, p4⟩ := (HL.out.kept K1.out).at hei2.out
      cases hgo
      go_wp2_with fail
      refine HH.out.mono ?_
      rintro r y2 ⟨rfl, rfl⟩
      clear HH
      by_cases hm : x ∈ S0
      · have HF2 := Lib.hid (show F1 = F0 from by rw [HF.out, if_pos hm])
        rw [decide_eq_true hm]
        have ka := (Kept.refl y1).alloc (.cells #[sV x] 9)
        have A3 := Lib.hid (A1.out.kept ka)
        have O3 := Lib.hid (O1.out.kept ka)
        have K3 := Lib.hid (K1.out.trans ka)
        clear hm HF ka A1 O1 K1 p0 p1 p2 p3 p4
        go_wp2_with (at_builtin; refine wpList_append_own _ rfl _ _ 22 rfl w.heap.size 9 i1 _ 1 16 Tryd.underlying22 hi1 hx0 hx1 hx2 rfl (by decide) _ _ _ rfl A3.out ⟨y1.heap.size, 0, none⟩ 1 1 [sV x] rfl rfl (tx_news y1 x) (tx_one x) (by unfold maxLen; omega) (by omega) K3.out.size ?_; intro v7 w7 hown hgrow _)
        have O7 := Lib.hid (show EnO w.heap.size _ F0 w7 from own_keep O3.out hgrow (NoRow.own A3.out (by decide)))
        have K7 := Lib.hid (kept_row K3.out hgrow (fun g hg => (World.ownsRow.lt A3.out g hg).1))
        have A7 := Lib.hid (show OwnS w.heap.size v7 S1 w7 by rw [HT.out]; exact OwnS.snoc hown)
        clear hown hgrow O3 K3 A3
        go_wp2
        go_roundw
        case rel => exact ⟨i + 1, hlt, by go_num, Lib.hid (by rw [HS1.out]; exact A7.out), Lib.hid (by rw [HF1.out, HF2.out]; exact O7.out), K7⟩
        case measure => simp [intOf]; omega
      · have HF2 := Lib.hid (show F1 = F0 ++ [e] from by rw [HF.out, if_neg hm])
        rw [decide_eq_false hm]
        obtain ⟨a1, a2, a3, a4, a5⟩ := e
        simp only at p0 p1 p2 p3 p4
        have kb := (Kept.refl y1).alloc (.cells #[sV a1, sV a2, sV a3, sV a4, iV a5] 28)
        have A2 := Lib.hid (A1.out.kept kb)
        have O2 := Lib.hid (O1.out.kept kb)
        have K2 := Lib.hid (K1.out.trans kb)
        clear hm HF kb A1 O1 K1
        go_upto_region 10 with (at_builtin; refine wpList_append_own _ rfl _ _ 23 rfl w.heap.size 28 i0 _ 5 72 Tryd.underlying23 hi0 hy0 hy1 hy2 rfl (by decide) _ _ _ rfl O2.out ⟨y1.heap.size, 0, none⟩ 1 1 [sV a1, sV a2, sV a3, sV a4, iV a5] rfl rfl (en_news y1 a1 a2 a3 a4 a5) (en_one a1 a2 a3 a4 a5) (by unfold maxLen; omega) (by omega) K2.out.size ?_; intro v6 w6 hown6 hgrow6 _)
        have A6 := Lib.hid (show OwnS w.heap.size _ S0 w6 from own_keep A2.out hgrow6 (NoRow.own O2.out (by decide)))
        have K6 := Lib.hid (kept_row K2.out hgrow6 (fun g hg => (World.ownsRow.lt O2.out g hg).1))
        have O6 := Lib.hid (show EnO w.heap.size v6 F1 w6 by rw [HF2.out]; exact EnO.snoc hown6)
        clear hown6 hgrow6 A2 K2 O2 p0 p1 p2 p3 p4
        have ka := (Kept.refl w6).alloc (.cells #[sV x] 9)
        have A3 := Lib.hid (A6.out.kept ka)
        have O3 := Lib.hid (O6.out.kept ka)
        have K3 := Lib.hid (K6.out.trans ka)
        clear ka A6 O6 K6
        go_wp2_with (at_builtin; refine wpList_append_own _ rfl _ _ 22 rfl w.heap.size 9 i1 _ 1 16 Tryd.underlying22 hi1 hx0 hx1 hx2 rfl (by decide) _ _ _ rfl A3.out ⟨w6.heap.size, 0, none⟩ 1 1 [sV x] rfl rfl (tx_news w6 x) (tx_one x) (by unfold maxLen; omega) (by omega) K3.out.size ?_; intro v7 w7 hown hgrow _)
        have O7 := Lib.hid (show EnO w.heap.size _ F1 w7 from own_keep O3.out hgrow (NoRow.own A3.out (by decide)))
        have K7 := Lib.hid (kept_row K3.out hgrow (fun g hg => (World.ownsRow.lt A3.out g hg).1))
        have A7 := Lib.hid (show OwnS w.heap.size v7 S1 w7 by rw [HT.out]; exact OwnS.snoc hown)
        clear hown hgrow O3 K3 A3
        go_wp2
        go_roundw
        case rel => exact ⟨i + 1, hlt, by go_num, Lib.hid (by rw [HS1.out]; exact A7.out), Lib.hid (by rw [HF1.out]; exact O7.out), K7⟩
        case measure => simp [intOf]; omega
    · obtain rfl : i = l.length := by omega
      have O3 := hO.out
      rw [List.take_length] at O3
      have Z := Lib.hid (show ∀ v', EnO w.heap.size v' (fr K l) wr → FrP K l w (.returned v') wr from fun v' h => ⟨v', rfl, h, hK.out⟩)
      have O4 := Lib.hid O3
      clear hO hK O3 hA
      go_wp2
      go_ret
      exact Z.out _ O4.out
end Go.Proofs.YtpkkpjonlogliaaDoor
