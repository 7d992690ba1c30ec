/- Several texts of this seat, one behind the other. -/
import Derived.Test.YtflhmgnhjnaiiaaGreatDoorFdP
import Derived.Test.YtflhmgnhjnaiiaaGreatDoorXmZ
import Derived.Test.YtflhmgnhjnaiiaaGreatDoorXmX
import Derived.Test.YtflhmgnhjnaiiaaGreatDoorXpQ
import Derived.Test.YtflhmgnhjnaiiaaGreatDoorEnT
import Derived.Test.YtflhmgnhjnaiiaaGreatDoorXpS
import Derived.Test.YtflhmgnhjnaiiaaGreatDoorXmY
import Derived.BigQuiet
set_option linter.unusedSimpArgs false
/- Package feed: an element's name, its attributes, the value of pieces. -/
set_option linter.unusedVariables false
namespace Go.Proofs.YtflhmgnhjnaiiaaGreatDoor.Fd
open Go.ChangeShapes Go.WideShapes Go.ChangeAt Go.RowKit
open En Xm
theorem Fw.sub {K : Nat} {l m : List Tk} (h : Fw K l) (s : m.Sublist l) : Fw K m := ⟨Nat.le_trans s.length_le h.1, fun t ht => h.2 t (s.subset ht)⟩
set_option maxRecDepth 100000 in
theorem lname_any (v : Value) (t : Tk) (r : List Tk) (w : World) (h : TkRd v (t :: r) w) (hF : Fw 1000000 (t :: r)) :
    Calls Tryz.prog 34 #[v] w fun e w' => e = .returned (sV (nm1 (t :: r))) ∧ w = w' := by
  obtain ⟨a, c, rfl⟩ := h.slice
  obtain ⟨-, g, o, x, rfl, hc, c0, c1, c2, c3, hat⟩ := h.at (i := 0) (t := t) rfl
  have hl : t.2.1.length ≤ 1000000 := (hF.2 t (by simp)).1
  have hpos : (0 : Int) < (t :: r).length := by simp
  have HN := Lib.hid (show nm1 (t :: r) = loc t.2.1 from rfl)
  generalize nm1 (t :: r) = nm at *
  generalize (t :: r).length = m at *
  clear h hF
  rw [Nat.zero_mul, Nat.add_zero] at c0 c1 c2 c3
  go_enter Tryz.func34, Tryz.ntmps34
  go_wp2_with fail
  refine (plocal_any t.2.1 w hl).mono ?_
  rintro e w1 ⟨rfl, rfl⟩
  go_wp2
  go_ret
  exact ⟨by rw [HN.out]; rfl, rfl⟩
theorem attF_drop {nm : B} {al : List Atr} {i : Nat} {a : Atr} (h : al[i]? = some a) : attF nm (al.drop i) = if loc a.1 = nm then some a.2 else attF nm (al.drop (i + 1)) := by
  obtain ⟨hi, rfl⟩ := List.getElem?_eq_some_iff.1 h
  rw [List.drop_eq_getElem_cons hi, attF]
set_option maxRecDepth 100000 in
set_option maxHeartbeats 1000000 in
theorem attr_any (v : Value) (t : Tk) (r : List Tk) (nm : B) (w : World) (h : TkRd v (t :: r) w) (hF : Fw 1000000 (t :: r)) :
    Calls Tryz.prog 147 #[v, sV nm] w fun e w' => e = .returned (.tuple #[sV ((at1 nm (t :: r)).getD []), .bool (at1 nm (t :: r)).isSome]) ∧ Kept w w' := by
  obtain ⟨a, c, rfl⟩ := h.slice
  obtain ⟨-, g, o, x, rfl, hc, c0, c1, c2, c3, hat⟩ := h.at (i := 0) (t := t) rfl
  obtain ⟨ax, cx, rfl⟩ := hat.slice
  have hpos : (0 : Int) < (t :: r).length := by simp
  have hal : t.2.2.2.length ≤ 1000000 := (hF.2 t (by simp)).2.2.1
  have HF := Lib.hid (hF.2 t (by simp)).2.2.2
  have HN := Lib.hid (show at1 nm (t :: r) = attF nm t.2.2.2 from rfl)
  generalize at1 nm (t :: r) = an at *
  generalize (t :: r).length = m at *
  rw [Nat.zero_mul, Nat.add_zero] at c0 c1 c2 c3
  have HA := Lib.hid hat
  clear h hF hat
  generalize t.2.2.2 = al at *
  go_enter Tryz.func147, Tryz.ntmps147
  go_wp2_with fail
  go_loopw [7, 13] (fun _ vi wr => ∃ i : Nat, i ≤ al.length ∧ vi = .int .i64 i ∧ Hid (Kept w wr) ∧ Hid (AtRd (.slice ax al.length cx) al wr) ∧ Hid (attF nm (al.drop i) = attF nm al)) (fun _ vi _ => al.length - (intOf vi).toNat)
  case atStart => exact ⟨0, Nat.zero_le _, rfl, Lib.hid (Kept.refl w), HA, Lib.hid rfl⟩
  case round =>
    obtain ⟨i, hi, rfl, hK, hA, hT⟩ := hrel
    clear c0 c1 c2 c3
    by_cases hlt : i < al.length
    · have hltI : (i : Int) < al.length := by omega
      obtain ⟨u, hu⟩ : ∃ u, al[i]? = some u := ⟨_, List.getElem?_eq_getElem hlt⟩
      obtain ⟨-, ga, oa, hpa, hca, f0, f1⟩ := hA.out.at hu
      subst hpa
      have hul : u.1.length ≤ 1000000 := (HF.out u (List.mem_of_getElem? hu)).1
      have HU := Lib.hid (attF_drop (nm := nm) hu)
      have k1 := (Kept.refl wr).alloc (.cells #[sV u.1, sV u.2] 120)
      have N0 := (Kept.refl (wr.alloc (.cells #[sV u.1, sV u.2] 120))).new 0 (v := sV u.1) rfl
      have N1 := (Kept.refl (wr.alloc (.cells #[sV u.1, sV u.2] 120))).new 1 (v := sV u.2) rfl
      have hKx := Lib.hid (hK.out.trans k1)
      have hAx := Lib.hid (hA.out.kept k1)
      clear hK hA k1 hu
      by_cases hm : loc u.1 = nm
      · go_wp2_with fail
        refine (plocal_any u.1 _ hul).mono ?_
        rintro e w1 ⟨rfl, rfl⟩
        have Z := Lib.hid (show an = some u.2 by rw [HN.out, ← hT.out, HU.out, if_pos hm])
        subst hm
        clear HN HU hT
        go_wp2
        go_ret2
        rw [Z.out]
        exact ⟨rfl, hKx.out⟩
      · have hne : (loc u.1 == nm) = false := by simp [hm]
        go_wp2_with fail
        refine (plocal_any u.1 _ hul).mono ?_
        rintro e w1 ⟨rfl, rfl⟩
        have T2 : Hid (attF nm (al.drop (i + 1)) = attF nm al) := Lib.hid (by rw [← hT.out, HU.out, if_neg hm])
        clear HU hT
        go_wp2
        go_roundw
        case rel => exact ⟨i + 1, hlt, by go_num, hKx, hAx, T2⟩
        case measure => simp [intOf]; omega
    · have hltI : ¬ (i : Int) < al.length := by omega
      have Z := Lib.hid (show an = none by rw [HN.out, ← hT.out, List.drop_of_length_le (by omega)]; rfl)
      clear HN hT hA
      go_wp2
      go_ret2
      rw [Z.out]
      exact ⟨rfl, hK.out⟩
theorem txs_take {l : List Tk} {i : Nat} {t : Tk} (h : l[i]? = some t) : txs (l.take (i + 1)) = txs (l.take i) ++ t.2.2.1 := by
  rw [List.take_add_one, h, txs_app]
  simp [txs]
set_option maxRecDepth 100000 in
set_option maxHeartbeats 1000000 in
theorem value_any (v : Value) (l : List Tk) (w : World) (h : TkRd v l w) (hE : Env w) (hF : Fw 1000000 l) (hT : (txs l).length ≤ 100000) :
    Calls Tryz.prog 13 #[v] w fun e w' => e = .returned (sV (val l)) ∧ Kept w w' := by
  obtain ⟨a, c, rfl⟩ := h.slice
  have B0 := Lib.hid (bd_new w)
  have K0 := Lib.hid ((Kept.refl w).alloc (.cells #[.pointer none, .slice none 0 0] 51))
  have L1 := Lib.hid h
  have HE := Lib.hid hE
  have hl := hF.1
  have HF := Lib.hid hF.2
  clear h hE hF
  go_enter Tryz.func13, Tryz.ntmps13
  go_wp2_with fail
  generalize hx : w.alloc (.cells #[.pointer none, .slice none 0 0] 51) = x at *
  have hsz : w.heap.size < x.heap.size := by rw [← hx]; simp
  clear hx
  have hk0 := Lib.hid (K0.out.below (Nat.le_refl w.heap.size))
  go_loopw [5, 8] (fun _ vi wr => ∃ i : Nat, i ≤ l.length ∧ vi = .int .i64 i ∧ Hid (Below w.heap.size w wr) ∧ Hid (Bd w.heap.size w.heap.size (txs (l.take i)) wr)) (fun _ vi _ => l.length - (intOf vi).toNat)
  case atStart => exact ⟨0, Nat.zero_le _, rfl, hk0, B0⟩
  case round =>
    obtain ⟨i, hi, rfl, hb, hB⟩ := hrel
    have LW := Lib.hid (L1.out.kept (Kept.of_below hb.out))
    have EW := Lib.hid (HE.out.kept (Kept.of_below hb.out))
    by_cases hlt : i < l.length
    · have hltI : (i : Int) < l.length := by omega
      obtain ⟨u, hu⟩ : ∃ u, l[i]? = some u := ⟨_, List.getElem?_eq_getElem hlt⟩
      obtain ⟨-, g, o, x, hp, hc, c0, c1, c2, c3, hat⟩ := LW.out.at hu
      obtain ⟨ax, cx, rfl⟩ := hat.slice
      subst hp
      have HU := Lib.hid (txs_take hu)
      have HL := Lib.hid (show (txs (l.take i)).length ≤ 100000 from Nat.le_trans (txs_sub (List.take_sublist i l)) hT)
      generalize u.2.2.2.length = na at *
      have k1 := (Kept.refl wr).alloc (.cells #[iV u.1, sV u.2.1, sV u.2.2.1, .slice ax na cx] 43)
      have N2 := (Kept.refl (wr.alloc (.cells #[iV u.1, sV u.2.1, sV u.2.2.1, .slice ax na cx] 43))).new 2 (v := sV u.2.2.1) rfl
      have hb2 := Lib.hid (hb.out.trans (k1.below hb.out.size))
      have hB2 := Lib.hid (Bd.kept hB.out k1)
      have hut : u.2.2.1.length ≤ 1000000 := (HF.out u (List.mem_of_getElem? hu)).2.1
      clear hb hB k1 LW EW hat hu
      go_wp2_with fail
      refine (wstr_any w.heap.size w.heap.size _ u.2.2.1 _ hB2.out (by have := HL.out; omega) hb2.out.size).mono ?_
      rintro e w2 ⟨rfl, q2⟩
      have hb3 := Lib.hid (hb2.out.trans q2.below)
      have hB3 : Hid (Bd w.heap.size w.heap.size (txs (l.take (i + 1))) w2) := Lib.hid (by rw [HU.out]; exact q2.bd)
      clear q2 hb2 hB2 HU
      go_wp2
      go_roundw
      case rel => exact ⟨i + 1, hlt, by go_num, hb3, hB3⟩
      case measure => simp [intOf]; omega
    · have hltI : ¬ (i : Int) < l.length := by omega
      obtain rfl : i = l.length := by omega
      rw [List.take_length] at hB
      have HV := Lib.hid (show val l = tr (txs l) from rfl)
      generalize txs l = ts at *
      go_wp2_with fail
      refine (bstr_any w.heap.size w.heap.size ts wr hB.out hb.out.size).mono ?_
      rintro e w2 ⟨rfl, q2⟩
      have hb3 := Lib.hid (hb.out.trans q2)
      go_wp2_with fail
      refine (trim_any ts w2 (HE.out.kept (Kept.of_below hb3.out)) (by omega)).mono ?_
      rintro e w3 ⟨rfl, k3⟩
      go_wp2
      go_ret
      exact ⟨by rw [HV.out]; rfl, (Kept.of_below hb3.out).trans k3⟩
end Go.Proofs.YtflhmgnhjnaiiaaGreatDoor.Fd
/- Package feed: are pieces one element? -/
set_option linter.unusedVariables false
namespace Go.Proofs.YtflhmgnhjnaiiaaGreatDoor.Fd
open Go.ChangeShapes Go.WideShapes Go.ChangeAt Go.RowKit
open En Xm
/-- a part of pieces, to be read -/
theorem rd_cut {g o n c : Nat} {l : List Tk} {w : World} (h : TkRd (.slice (some ⟨g, o, none⟩) n c) l w) (p : Nat × Nat) (hp : p.1 < p.2 ∧ p.2 ≤ l.length) :
    TkRd (.slice (some ⟨g, o + p.1 * 4, none⟩) (p.2 - p.1) (c - p.1)) (cutP l p) w := by
  obtain ⟨a', c', hv, h⟩ := h
  injection hv with e1 e2 e3
  subst e1 e2 e3
  obtain ⟨g', o', ha, hc, h⟩ := h (fun e => by rw [e] at hp; simp at hp; omega)
  cases ha
  refine ⟨_, _, by rw [cutP_len hp], fun _ => ⟨g, o + p.1 * 4, rfl, by rw [cutP_len hp]; omega, fun i t ht => ?_⟩⟩
  have hi : i < p.2 - p.1 := by
    have := (List.getElem?_eq_some_iff.1 ht).1
    rw [cutP_len hp] at this; exact this
  rw [cutP_at hp hi] at ht
  have := h (p.1 + i) t ht
  rwa [show o + p.1 * 4 + i * 4 = o + (p.1 + i) * 4 by omega]
theorem rd_tail {g o n c : Nat} {t : Tk} {r : List Tk} {w : World} (h : TkRd (.slice (some ⟨g, o, none⟩) n c) (t :: r) w) : TkRd (sliced (some ⟨g, o, none⟩) 1 n c 4) r w := by
  obtain ⟨a', c', hv, h⟩ := h
  injection hv with e1 e2 e3
  subst e1 e2 e3
  obtain ⟨g', o', ha, hc, h⟩ := h (by simp)
  cases ha
  rw [List.length_cons] at hc
  refine ⟨_, _, by unfold sliced; rw [List.length_cons, Nat.add_sub_cancel], fun hne => ?_⟩
  have := List.length_pos_iff.2 hne
  rw [if_neg (by omega)]
  refine ⟨g, o + 4, by simp [Addr.add], by omega, fun i t ht => ?_⟩
  have := h (i + 1) t (by simpa using ht)
  rwa [show o + 4 + i * 4 = o + (i + 1) * 4 by omega]
theorem wpList_pushS {ops : Array Oper} {rest : List Oper} {op : Oper} {a : Act} {w : World} {Q : Exit → Act → World → Prop} (hg : op.guard = none) (sx x : Operand) (ho : op.op = .call { callee := .builtin .append, args := #[sx, x], argTypes := #[78, 78] })
    (B0 : Nat) (v : Value) (ls : List B) (t : B) (k : Nat) (hs : a.eval sx = v) (hO : OwnS B0 v ls w) (hx : a.eval x = .slice (some ⟨k, 0, none⟩) 1 1) (hc : w.cell? ⟨k, 0, none⟩ = some (sV t)) (hl : ls.length ≤ 10000000) (hB : B0 ≤ w.heap.size)
    (h : ∀ v' w', OwnS B0 v' (ls ++ [t]) w' → w.grownBy w' v.ownBlock → wpList Tryz.prog ops Q rest (a.put op.dst v') w') : wpList Tryz.prog ops Q (op :: rest) a w :=
  wpList_plain hg fun K hK => wp_pushS sx x ho B0 v ls t k hs hO hx hc hl hB (fun v' w' h1 h2 => hK _ _ (h v' w' h1 h2))
theorem nst_drop {l : List Tk} {i : Nat} {t : Tk} (h : l[i]? = some t) (o : List B) : nst o (l.drop i) = if o = [] then false else if t.1 = 0 then nst (o ++ [t.2.1]) (l.drop (i + 1)) else if t.1 = 1 then (if o.getLast? = some t.2.1 then nst o.dropLast (l.drop (i + 1)) else false) else nst o (l.drop (i + 1)) := by
  obtain ⟨hi, rfl⟩ := List.getElem?_eq_some_iff.1 h
  rw [List.drop_eq_getElem_cons hi, nst]
theorem own_one (w : World) (nm : B) : OwnS w.heap.size (.slice (some ⟨w.heap.size, 0, none⟩) 1 1) [nm] (w.alloc (.cells #[sV nm] 9)) := by
  refine ⟨by simp, Or.inr ⟨w.heap.size, 1, #[sV nm], rfl, Nat.le_refl _, World.alloc_heap_new w _, by simp, by decide, rfl, rfl⟩⟩
set_option maxRecDepth 100000 in
set_option maxHeartbeats 4000000 in
theorem nested_any (v : Value) (l : List Tk) (w : World) (h : TkRd v l w) (hF : Fw 1000000 l) :
    Calls Tryz.prog 21 #[v] w fun e w' => e = .returned (.bool (nested l)) ∧ Kept w w' := by
  obtain ⟨a, c, rfl⟩ := h.slice
  cases l with
  | nil =>
    clear h hF
    go_enter Tryz.func21, Tryz.ntmps21
    go_wp2_with fail
    go_ret
    exact ⟨rfl, Kept.refl _⟩
  | cons t r =>
    obtain ⟨-, g, o, x, rfl, hc, c0, c1, c2, c3, hat⟩ := h.at (i := 0) (t := t) rfl
    have hpos : (0 : Int) < (t :: r).length := by simp
    have hne : ((((t :: r).length : Nat) : Int) == 0) = false := by simp; omega
    rw [Nat.zero_mul, Nat.add_zero] at c0 c1 c2 c3
    by_cases hk : t.1 = 0
    · have hk2 : (t.1 != 0) = false := by simp [hk]
      have HR := Lib.hid (show nested (t :: r) = nst [t.2.1] r by rw [nested, if_pos hk])
      have HT := Lib.hid (rd_tail h)
      obtain ⟨ta, tc, htl⟩ := HT.out.slice
      rw [htl] at HT
      have hcp : (t :: r).length ≤ c := hc
      have hrl : r.length ≤ 1000000 := by have := hF.1; simp at this; omega
      have hsl : ∀ W : World, (Instr.slice 44 (.slice (some ⟨g, o, none⟩) (t :: r).length c) (some (iV 1)) none none).run Tryz.prog W = .ok (.slice ta r.length tc) W := fun W => by
        rw [run_slice_l W 44 _ _ _ (by kernel_rfl) .i64 1 (by omega) (by omega), show Tryz.prog.elem 44 = 43 by kernel_rfl, ← htl]
        simp [Result.andThen]
      have O1 := Lib.hid (own_one w t.2.1)
      have K1 := Lib.hid ((Kept.refl w).alloc (.cells #[sV t.2.1] 9))
      have HF := Lib.hid hF.2
      generalize hnn : nested (t :: r) = q at *
      clear hnn
      generalize (t :: r).length = m at *
      clear h hF hk htl hat
      go_enter Tryz.func21, Tryz.ntmps21
      go_wp2_with fail
      generalize hx : w.alloc (.cells #[sV t.2.1] 9) = x1 at *
      have hx1 : w.heap.size < x1.heap.size := by rw [← hx]; simp
      clear hx c0 c1 c2 c3 hsl
      have HS := Lib.hid (show nst [t.2.1] (r.drop 0) = nst [t.2.1] r from rfl)
      go_loopw [3, 5, 6, 25] (fun v3 _ _ vi wr => ∃ (i : Nat) (o : List B) (oa : Option Addr) (oc : Nat), i ≤ r.length ∧ v3 = .slice oa o.length oc ∧ vi = .int .i64 i ∧ Hid (Kept w wr) ∧ Hid (OwnS w.heap.size (.slice oa o.length oc) o wr) ∧ Hid (nst o (r.drop i) = q) ∧ o.length ≤ i + 1) (fun _ _ _ vi _ => r.length - (intOf vi).toNat)
      case atStart => exact ⟨0, [t.2.1], _, _, Nat.zero_le _, rfl, rfl, K1, O1, Lib.hid (by rw [HS.out, HR.out]), by simp⟩
      case round =>
        obtain ⟨i, o, oa, oc, hi, rfl, rfl, hK, hO, hN, hol⟩ := hrel
        have hT := Lib.hid (HT.out.kept hK.out)
        clear HS HR O1 K1
        by_cases hlt : i < r.length
        · have hltI : (i : Int) < r.length := by omega
          obtain ⟨u, hu⟩ : ∃ u, r[i]? = some u := ⟨_, List.getElem?_eq_getElem hlt⟩
          obtain ⟨-, ga, oo, x, hpa, hca, t0, t1, t2, t3, hat⟩ := hT.out.at hu
          obtain ⟨ax, cx, rfl⟩ := hat.slice
          subst hpa
          have HU := Lib.hid (nst_drop hu o)
          obtain ⟨k1, n1, s1, al⟩ := u
          simp only at t0 t1 t2 t3 HU
          generalize al.length = na at *
          have kx := (Kept.refl wr).alloc (.cells #[iV k1, sV n1, sV s1, .slice ax na cx] 43)
          have e0 := (Kept.refl (wr.alloc (.cells #[iV k1, sV n1, sV s1, .slice ax na cx] 43))).new 0 (v := iV k1) rfl
          have e1 := (Kept.refl (wr.alloc (.cells #[iV k1, sV n1, sV s1, .slice ax na cx] 43))).new 1 (v := sV n1) rfl
          have KX := Lib.hid (hK.out.trans kx)
          have OX := Lib.hid (show OwnS w.heap.size _ o _ from own_keep hO.out (kx.grownBy none) (fun r hr => by cases hr))
          clear hK hT hO hat hu kx
          by_cases ho : o = []
          · have hlz : ((o.length : Int) - 1) < 0 := by rw [ho]; decide
            have Z := Lib.hid (show q = false by rw [← hN.out, HU.out, if_pos ho])
            clear HU hN OX
            go_wp2
            go_ret
            exact ⟨by rw [Z.out]; rfl, KX.out⟩
          · have hlz : ¬ ((o.length : Int) - 1) < 0 := by have := List.length_pos_iff.2 ho; omega
            by_cases h0 : k1 = 0
            · have hk0 : (k1 == 0) = true := by simp [h0]
              have N2 := Lib.hid (show nst (o ++ [n1]) (r.drop (i + 1)) = q by rw [← hN.out, HU.out, if_neg ho, if_pos h0])
              clear HU hN
              have k1x := (Kept.refl (wr.alloc (.cells #[iV k1, sV n1, sV s1, .slice ax na cx] 43))).alloc (.cells #[sV n1] 9)
              have OX1 := Lib.hid (show OwnS w.heap.size _ o _ from own_keep OX.out (k1x.grownBy none) (fun r hr => by cases hr))
              have hc1 := (Kept.refl ((wr.alloc (.cells #[iV k1, sV n1, sV s1, .slice ax na cx] 43)).alloc (.cells #[sV n1] 9))).new 0 (v := sV n1) rfl
              rw [show (wr.alloc (.cells #[iV k1, sV n1, sV s1, .slice ax na cx] 43)).heap.size = wr.heap.size + 1 by simp] at hc1
              have KX1 := Lib.hid (KX.out.trans k1x)
              have hB1 : w.heap.size ≤ ((wr.alloc (.cells #[iV k1, sV n1, sV s1, .slice ax na cx] 43)).alloc (.cells #[sV n1] 9)).heap.size := KX1.out.size
              clear k1x KX
              clear h0
              go_upto_region 12 with (fail)
              go_wp2_with (at_builtin; refine wpList_pushS rfl _ _ rfl w.heap.size (.slice oa o.length oc) o n1 (wr.heap.size + 1) rfl OX1.out rfl hc1 (by omega) hB1 ?_)
              intro v' z hz hgz
              obtain ⟨va, vc, hvv⟩ := own_slice hz
              subst hvv
              have KZ := Lib.hid (kept_row KX1.out hgz (fun g hg => (World.ownsRow.lt OX1.out g hg).1))
              have OZ := Lib.hid hz
              clear hz hgz OX1 KX1 OX hc1 t0 t1 t2 t3 e0 e1 hB1
              have hll : (o ++ [n1]).length ≤ i + 1 + 1 := by simp; omega
              generalize o ++ [n1] = o' at *
              go_wp2
              go_roundw
              case rel => exact ⟨i + 1, o', va, vc, hlt, rfl, by go_num, KZ, OZ, N2, hll⟩
              case measure => simp [intOf]; omega
            · have hk0 : (k1 == 0) = false := by simp [h0]
              by_cases h1 : k1 = 1
              · have hk1 : (k1 == 1) = true := by simp [h1]
                have hlen : o.length ≠ 0 := fun e => ho (List.length_eq_zero_iff.1 e)
                obtain ⟨g2, cap, hov, hcap, hcm⟩ := own_some OX.out hlen
                injection hov with q1 _ q3
                subst q1 q3
                obtain ⟨lst, hls⟩ : ∃ lst, o.getLast? = some lst := ⟨_, List.getLast?_eq_some_getLast ho⟩
                have hcl : (wr.alloc (.cells #[iV k1, sV n1, sV s1, .slice ax na cx] 43)).cell? ⟨g2, o.length - 1, none⟩ = some (sV lst) := by
                  rw [World.ownsRow.cellAt OX.out (o.length - 1) (by omega), List.getElem?_map, last_of ho, hls]; rfl
                have hnl : ((o.length : Int) - 1) = ((o.length - 1 : Nat) : Int) := by omega
                have OC := Lib.hid (OwnS.cut OX.out)
                have hsl : ∀ W : World, (Instr.slice 78 (.slice (some ⟨g2, 0, none⟩) o.length oc) none (some (iV ((o.length : Int) - 1))) none).run Tryz.prog W = .ok (.slice (some ⟨g2, 0, none⟩) (o.length - 1) oc) W := fun W => by
                  rw [run_slice_h W 78 _ _ _ (by kernel_rfl) .i64 _ (by omega) (by omega), hnl, Int.toNat_natCast, show Tryz.prog.elem 78 = 9 by kernel_rfl]
                  simp [sliced, Result.andThen]
                  intro _
                  rfl
                by_cases hq : lst = n1
                · have hnq : (lst == n1) = true := by simp [hq]
                  have N2 := Lib.hid (show nst o.dropLast (r.drop (i + 1)) = q by rw [← hN.out, HU.out, if_neg ho, if_neg h0, if_pos h1, if_pos (by rw [hls, hq])])
                  clear HU hN hls
                  clear h0 h1 hq
                  go_upto_region 14 with (fail)
                  go_quiet (fail)
                  generalize hX : wr.alloc (.cells #[iV k1, sV n1, sV s1, .slice ax na cx] 43) = X at *
                  have KY := Lib.hid (KX.out.trans ((Kept.refl X).drewN nq))
                  have OY := Lib.hid (show OwnS w.heap.size _ _ (X.drewN nq) from own_keep OC.out (((Kept.refl X).drewN nq).grownBy none) (fun r hr => by cases hr))
                  generalize X.drewN nq = Y at *
                  have hll : o.dropLast.length ≤ i + 1 + 1 := by simp; omega
                  have hdl : o.length - 1 = o.dropLast.length := by simp
                  rw [hdl] at OY hsl
                  clear KX OX OC hcl t0 t1 t2 t3 e0 e1
                  generalize o.dropLast = o' at *
                  go_wp2
                  go_roundw
                  case rel => exact ⟨i + 1, o', _, _, hlt, rfl, by go_num, KY, OY, N2, hll⟩
                  case measure => simp [intOf]; omega
                · have hnq : (lst == n1) = false := by simp [hq]
                  have Z := Lib.hid (show q = false by rw [← hN.out, HU.out, if_neg ho, if_neg h0, if_pos h1, if_neg (by rw [hls]; exact fun e => hq (Option.some.inj e))])
                  clear HU hN hls
                  clear h0 h1 hq
                  go_upto_region 14 with (fail)
                  go_quiet (fail)
                  have KY := Lib.hid (KX.out.drewN nq)
                  clear KX OX OC hcl t0 t1 t2 t3 e0 e1 hsl
                  go_wp2
                  go_ret
                  exact ⟨by rw [Z.out]; rfl, KY.out⟩
              · have hk1 : (k1 == 1) = false := by simp [h1]
                have N2 := Lib.hid (show nst o (r.drop (i + 1)) = q by rw [← hN.out, HU.out, if_neg ho, if_neg h0, if_neg h1])
                clear HU hN
                go_wp2
                go_roundw
                case rel => exact ⟨i + 1, o, oa, oc, hlt, rfl, by go_num, KX, OX, N2, by omega⟩
                case measure => simp [intOf]; omega
        · have hltI : ¬ (i : Int) < r.length := by omega
          have Z := Lib.hid (show q = o.isEmpty by rw [← hN.out, List.drop_of_length_le (by omega)]; cases o <;> rfl)
          have hz : ((o.length : Int) == 0) = o.isEmpty := by cases o <;> simp; omega
          clear hN hT hO
          go_wp2
          go_ret
          exact ⟨by rw [Z.out, ← hz]; rfl, hK.out⟩
    · have hk2 : (t.1 != 0) = true := by simp [hk]
      have HR := Lib.hid (show nested (t :: r) = false by rw [nested, if_neg hk])
      generalize nested (t :: r) = q at *
      generalize (t :: r).length = m at *
      clear h hF hk
      go_enter Tryz.func21, Tryz.ntmps21
      go_wp2_with fail
      go_ret
      exact ⟨by rw [HR.out]; rfl, Kept.refl _⟩
end Go.Proofs.YtflhmgnhjnaiiaaGreatDoor.Fd
