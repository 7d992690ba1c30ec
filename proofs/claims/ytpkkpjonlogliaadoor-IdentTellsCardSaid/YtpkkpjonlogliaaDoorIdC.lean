/- Package ident: those that are fresh, in order. -/
import Derived.Test.YtpkkpjonlogliaaDoorIdK
set_option linter.unusedSimpArgs false
set_option linter.unusedVariables false
namespace Go.Proofs.YtpkkpjonlogliaaDoor
open Go.ChangeShapes Go.WideShapes Go.ChangeAt Go.RowKit
open En Idn
theorem EnO.ob {B0 b : Nat} {v : Value} {es : List Ent} {w w' : World} (h : EnO B0 v es w) (o : Ob b w w') (hb : ∃ es cl, w.heap[b]? = some (.map es cl)) : EnO B0 v es w' := by
  refine own_keep h (row := some b) ⟨o.os, o.tape, o.output, o.size, fun k hk hn => o.block k hk (fun e => hn (by rw [e]))⟩ ?_
  intro r hr c hc
  cases hr
  obtain ⟨es', cl, hb⟩ := hb
  rw [hb] at hc
  cases hc
theorem Km.grown {b n : Nat} {K : List (List UInt8)} {B0 : Nat} {v : Value} {es : List Ent} {w w' : World} (h : Km b n K w) (hO : EnO B0 v es w) (hg : w.grownBy w' v.ownBlock) : Km b n K w' := by
  obtain ⟨es', cl, hb⟩ := h.isMap
  have hne : v.ownBlock ≠ some b := fun e => by
    obtain ⟨c, hc⟩ := own_kind hO b e
    rw [hb] at hc
    cases hc
  obtain ⟨D, ⟨es2, cl2, hb2, h2⟩, h3⟩ := h
  exact ⟨D, ⟨es2, cl2, (hg.block b (Array.getElem?_eq_some_iff.1 hb2).1 (fun e => hne e.symm)).trans hb2, h2⟩, h3⟩
theorem Ob.row {b : Nat} {w x y : World} {row : Option Nat} (h : Ob b w x) (hg : x.grownBy y row) (hr : ∀ k, row = some k → w.heap.size ≤ k) : Ob b w y :=
  ⟨hg.os.trans h.os, hg.tape.trans h.tape, hg.output.trans h.output, Nat.le_trans h.size hg.size, fun k hk hb => (hg.block k (Nat.lt_of_lt_of_le hk h.size) (fun e => by have := hr k e.symm; omega)).trans (h.block k hk hb)⟩
theorem EnRd.ob {b : Nat} {v : Value} {es : List Ent} {w w' : World} (h : EnRd v es w) (o : Ob b w w') (hb : ∃ es cl, w.heap[b]? = some (.map es cl)) : EnRd v es w' := by
  obtain ⟨a, c, hv, h⟩ := h
  refine ⟨a, c, hv, fun hne => ?_⟩
  obtain ⟨g, o1, ha, hc, h⟩ := h hne
  obtain ⟨es', cl, hb⟩ := hb
  have key : ∀ (off : Nat) (u : Value), w.cell? ⟨g, off, none⟩ = some u → w'.cell? ⟨g, off, none⟩ = some u := fun off u hu => by
    have hlt := cell_lt hu
    have hne : g ≠ b := fun e => by
      subst e
      simp [World.cell?, hb] at hu
    have := o.block g hlt hne
    unfold World.cell? at hu ⊢
    rw [this]; exact hu
  exact ⟨g, o1, ha, hc, fun i e he => by
    obtain ⟨q0, q1, q2, q3, q4⟩ := h i e he
    exact ⟨key _ _ q0, key _ _ q1, key _ _ q2, key _ _ q3, key _ _ q4⟩⟩
theorem Env.ob {b : Nat} {w w' : World} (h : Env w) (o : Ob b w w') (hb : ∃ es cl, w.heap[b]? = some (.map es cl)) : Env w' := by
  obtain ⟨es', cl, hb⟩ := hb
  have key : ∀ (g off : Nat) (u : Value), w.cell? ⟨g, off, none⟩ = some u → w'.cell? ⟨g, off, none⟩ = some u := fun g off u hu => by
    have hlt := cell_lt hu
    have hne : g ≠ b := fun e => by
      subst e
      simp [World.cell?, hb] at hu
    have := o.block g hlt hne
    unfold World.cell? at hu ⊢
    rw [this]; exact hu
  obtain ⟨⟨h1, h2⟩, h3, m, h4⟩ := h
  exact ⟨⟨fun c hc => key _ _ _ (h1 c hc), fun i hi => ⟨key _ _ _ (h2 i hi).1, key _ _ _ (h2 i hi).2⟩⟩, fun j v hv => key _ _ _ (h3 j v hv), m, key _ _ _ h4⟩
abbrev admV (b : Nat) : Value := .func (.func 21) #[.map (some b)] #[]
/-- what is known behind so many entries -/
def seen (K : List (List UInt8)) (l : List Ent) : List (List UInt8) := K ++ l.map key
theorem seen_step {K : List (List UInt8)} {l : List Ent} {i : Nat} {a : Ent} (h : l[i]? = some a) (x : List UInt8) : x ∈ key a :: seen K (l.take i) ↔ x ∈ seen K (l.take (i + 1)) := by
  unfold seen
  rw [map_step h]
  simp only [List.mem_cons, List.mem_append, List.not_mem_nil, or_false]
  constructor
  · rintro (h | h | h)
    · exact Or.inr (Or.inr h)
    · exact Or.inl h
    · exact Or.inr (Or.inl h)
  · rintro (h | h | h)
    · exact Or.inr (Or.inl h)
    · exact Or.inr (Or.inr h)
    · exact Or.inl h
theorem fr_seen {K : List (List UInt8)} {l : List Ent} {i : Nat} {a : Ent} (h : l[i]? = some a) : fr K (l.take (i + 1)) = if key a ∈ seen K (l.take i) then fr K (l.take i) else fr K (l.take i) ++ [a] := by
  rw [fr_step h]
  unfold seen
  by_cases q : key a ∈ K ∨ key a ∈ (l.take i).map key
  · rw [if_pos q, if_pos (List.mem_append.2 q)]
  · rw [if_neg q, if_neg (fun c => q (List.mem_append.1 c))]
theorem fr_len : ∀ (l : List Ent) (K : List (List UInt8)), (fr K l).length ≤ l.length := fun l K => (fr_sub l K).length_le
def ChP (b n : Nat) (K : List (List UInt8)) (l : List Ent) (w : World) (e : Ending) (w' : World) : Prop := ∃ v', e = .returned v' ∧ EnO w.heap.size v' (fr K l) w' ∧ Ob b w w'
set_option maxRecDepth 100000 in
set_option maxHeartbeats 4000000 in
theorem chosen_any (v : Value) (l : List Ent) (b n : Nat) (K : List (List UInt8)) (w : World) (hE : Env w) (h : EnRd v l w) (hs : ∀ e ∈ l, Sm5 100000 e) (hl : l.length ≤ 1000) (hK : Km b n K w) (hn : n ≤ 10000) :
    Calls Tryd.prog 19 #[v, admV b] w (ChP b n K l w) := by
  obtain ⟨a, c, hv⟩ := h.slice
  subst hv
  have HS := Lib.hid hs
  have hbl := hK.lt
  have L0 := Lib.hid h
  have M0 := Lib.hid (show Km b (n + 0) (seen K (l.take 0)) w by unfold seen; simpa using hK)
  have E0 := Lib.hid hE
  have MP := Lib.hid hK.isMap
  clear h hs hK hE
  go_enter Tryd.func19, Tryd.ntmps19
  go_wp2_with fail
  go_loopw [5, 10] (fun vs vi wr => ∃ i : Nat, i ≤ l.length ∧ vi = .int .i64 i ∧ Hid (EnO w.heap.size vs (fr K (l.take i)) wr) ∧ Hid (Km b (n + i) (seen K (l.take i)) wr) ∧ Hid (Ob b w wr)) (fun _ vi _ => l.length - (intOf vi).toNat)
  case atStart => exact ⟨0, Nat.zero_le _, rfl, Lib.hid (by rw [List.take_zero]; exact EnO.nil _ _), M0, Lib.hid (Ob.refl b w)⟩
  case round =>
    obtain ⟨i, hi, rfl, hO, hM, hB⟩ := hrel
    by_cases hlt : i < l.length
    · have hltI : (i : Int) < l.length := by omega
      obtain ⟨e, hei⟩ : ∃ e, l[i]? = some e := ⟨_, List.getElem?_eq_getElem hlt⟩
      have HF := Lib.hid (fr_seen (K := K) hei)
      have HT := Lib.hid (fun x => seen_step (K := K) hei x)
      obtain ⟨-, g, o, rfl, hc, p0, p1, p2, p3, p4⟩ := (L0.out.ob hB.out MP.out).at hei
      have HSm := Lib.hid (HS.out e (List.mem_of_getElem? hei))
      have hfl := fr_len (l.take i) K
      rw [List.length_take] at hfl
      clear hei
      have D0 := Lib.hid (Eb.new wr e)
      have kd := (Kept.refl wr).alloc (.cells (e5 e) 28)
      have O1 := Lib.hid (hO.out.kept kd)
      have M1 := Lib.hid (hM.out.kept kd)
      have B1 := Lib.hid (hB.out.kept kd)
      have E1 := Lib.hid ((E0.out.ob hB.out MP.out).kept kd)
      obtain ⟨a1, a2, a3, a4, a5⟩ := e
      simp only at p0 p1 p2 p3 p4
      have hws := hB.out.size
      go_upto_region 5 with (fail)
      generalize hd : wr.heap.size = d at *
      rw [show wr.alloc (.cells #[sV a1, sV a2, sV a3, sV a4, iV a5] 28) = wr.alloc (.cells (e5 (a1, a2, a3, a4, a5)) 28) from rfl]
      have hzd : (wr.alloc (.cells (e5 (a1, a2, a3, a4, a5)) 28)).heap.size = d + 1 := by simp [hd]
      generalize wr.alloc (.cells (e5 (a1, a2, a3, a4, a5)) 28) = x0 at *
      clear hd kd hO hM hB p0 p1 p2 p3 p4
      obtain ⟨c0, c1, c2, c3, c4⟩ := D0.out.cells
      simp only at c0 c1 c2 c3 c4
      go_wp2_with fail
      refine (admit_any (a1, a2, a3, a4, a5) b (n + i) (seen K (l.take i)) x0 E1.out HSm.out M1.out (by omega)).mono ?_
      rintro e y1 ⟨rfl, o1, m1⟩
      have hmp := M1.out.isMap
      have O2 := Lib.hid (O1.out.ob o1 hmp)
      have B2 := Lib.hid (B1.out.trans o1)
      have hdb : d ≠ b := fun q => by
        obtain ⟨es, cl, q2⟩ := hmp
        have q1 := D0.out
        unfold Eb at q1
        rw [q, q2] at q1
        cases q1
      have D2 := Lib.hid (show Eb d (a1, a2, a3, a4, a5) y1 from (o1.block d D0.out.lt hdb).trans D0.out)
      have M2 := Lib.hid (m1.congr HT.out)
      have hys := o1.size
      clear c0 c1 c2 c3 c4 o1 m1 hmp O1 E1 B1 M1 D0 HT
      have HFo := HF.out
      by_cases hm : key (a1, a2, a3, a4, a5) ∈ seen K (l.take i)
      · rw [if_pos hm] at HFo
        have O3 := Lib.hid (show EnO w.heap.size _ (fr K (l.take (i + 1))) y1 by rw [HFo]; exact O2.out)
        rw [show (!decide (key (a1, a2, a3, a4, a5) ∈ seen K (l.take i))) = false by rw [decide_eq_true hm]; rfl]
        clear hm HF HFo O2 D2
        go_wp2
        go_roundw
        case rel => exact ⟨i + 1, hlt, by go_num, O3, M2, B2⟩
        case measure => simp [intOf]; omega
      · rw [if_neg hm] at HFo
        rw [show (!decide (key (a1, a2, a3, a4, a5) ∈ seen K (l.take i))) = true by rw [decide_eq_false hm]; rfl]
        have HF2 := Lib.hid HFo
        clear hm HF HFo
        generalize hes2 : fr K (l.take (i + 1)) = es2 at *
        have HES := Lib.hid hes2
        clear hes2
        generalize fr K (l.take i) = es at *
        obtain ⟨c0, c1, c2, c3, c4⟩ := D2.out.cells
        simp only at c0 c1 c2 c3 c4
        obtain ⟨i0, hi0, hy0, hy1, hy2⟩ := info_parts infoE
        have k6 := (Kept.refl y1).alloc (.cells #[sV a1, sV a2, sV a3, sV a4, iV a5] 28)
        have O6 := Lib.hid (O2.out.kept k6)
        have M6 := Lib.hid (M2.out.kept k6)
        have B6 := Lib.hid (B2.out.kept k6)
        clear k6 O2 M2 B2
        go_wp2_with (at_builtin; refine wpList_append_own _ rfl _ _ 23 rfl w.heap.size 28 i0 _ 5 72 Tryd.underlying23 hi0 hy0 hy1 hy2 rfl (by decide) _ _ _ rfl O6.out ⟨y1.heap.size, 0, none⟩ 1 1 [sV a1, sV a2, sV a3, sV a4, iV a5] rfl rfl ?n1 ?n2 ?n3 ?n4 ?n5 ?_)
        case n1 =>
          intro j u hj
          have hcc := fun (j : Nat) (u : Value) (q : #[sV a1, sV a2, sV a3, sV a4, iV a5][j]? = some u) => (Kept.refl (y1.alloc (.cells #[sV a1, sV a2, sV a3, sV a4, iV a5] 28))).new j q
          rw [Addr.add_lit, Nat.zero_add]
          exact hcc j u (by simpa using hj)
        case n2 => intro u hu; simp at hu; rcases hu with rfl | rfl | rfl | rfl | rfl <;> rfl
        case n3 => unfold maxLen; omega
        case n4 => omega
        case n5 => exact B6.out.size
        intro v7 w7 hown hgrow _
        have M7 := Lib.hid (M6.out.grown O6.out hgrow)
        have B7 := Lib.hid (B6.out.row hgrow (fun g hg => (World.ownsRow.lt O6.out g hg).1))
        have O7 := Lib.hid (show EnO w.heap.size v7 es2 w7 by rw [HF2.out]; exact EnO.snoc hown)
        clear hown hgrow c0 c1 c2 c3 c4 O6 M6 B6 D2
        go_wp2
        go_roundw
        case rel => exact ⟨i + 1, hlt, by go_num, Lib.hid (by rw [HES.out]; exact O7.out), M7, B7⟩
        case measure => simp [intOf]; omega
    · obtain rfl : i = l.length := by omega
      have O3 := hO.out
      rw [List.take_length] at O3
      have Z := Lib.hid (show ∀ v', EnO w.heap.size v' (fr K l) wr → ChP b n K l w (.returned v') wr from fun v' h => ⟨v', rfl, h, hB.out⟩)
      have O4 := Lib.hid O3
      clear hO hM hB O3
      go_wp2
      go_ret
      exact Z.out _ O4.out
theorem ob_new {b : Nat} {w w' x : World} (hb : w.heap.size ≤ b) (k : Kept w w') (o : Ob b w' x) : Kept w x :=
  ⟨o.os.trans k.os, o.output.trans k.output, Nat.le_trans k.size o.size, fun j hj => (o.block j (Nat.lt_of_lt_of_le hj k.size) (by omega)).trans (k.block j hj), o.tape.trans k.tape⟩
def FrP (K : List (List UInt8)) (l : List Ent) (w : World) (e : Ending) (w' : World) : Prop := ∃ v', e = .returned v' ∧ EnO w.heap.size v' (fr K l) w' ∧ Kept w w'
set_option maxRecDepth 100000 in
theorem fresh_any (vk : Value) (K : List (List UInt8)) (v : Value) (l : List Ent) (w : World) (hE : Env w) (hk : TxRd vk K w) (hkl : K.length ≤ 1000) (hks : ∀ s ∈ K, s.length ≤ maxLen) (h : EnRd v l w) (hs : ∀ e ∈ l, Sm5 100000 e) (hl : l.length ≤ 1000) :
    Calls Tryd.prog 13 #[vk, v] w (FrP K l w) := by
  have HC := Lib.hid (keysOf_any vk K w hk hkl hks)
  have HH := Lib.hid (fun y (k : Kept w y) (hM : Km w.heap.size K.length K y) => chosen_any v l w.heap.size K.length K y (hE.kept k) (h.kept k) hs hl hM (by omega))
  obtain ⟨ak, ck, hv⟩ := hk.slice
  obtain ⟨a, c, hv2⟩ := h.slice
  subst hv hv2
  clear hE hk hks h hs
  go_enter Tryd.func13, Tryd.ntmps13
  go_wp2_with fail
  refine HC.out.mono ?_
  rintro e y1 ⟨rfl, k1, m1⟩
  go_wp2_with fail
  refine (HH.out y1 k1 m1).mono ?_
  rintro e y2 ⟨v', rfl, hO, o2⟩
  have Z := Lib.hid (show FrP K l w (.returned v') y2 from ⟨v', rfl, hO.mono k1.size, ob_new (Nat.le_refl _) k1 o2⟩)
  clear hO o2 k1 m1 HC HH
  go_wp2
  go_ret
  exact Z.out
end Go.Proofs.YtpkkpjonlogliaaDoor
