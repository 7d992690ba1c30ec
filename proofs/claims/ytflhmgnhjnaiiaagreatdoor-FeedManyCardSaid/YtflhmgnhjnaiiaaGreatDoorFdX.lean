/- Package feed: Extract and Read. -/
import Derived.Test.YtflhmgnhjnaiiaaGreatDoorFdM
import Derived.Test.YtflhmgnhjnaiiaaGreatDoorXpI
set_option linter.unusedSimpArgs false
set_option linter.unusedVariables false
namespace Go.Proofs.YtflhmgnhjnaiiaaGreatDoor.Fd
open Go.ChangeShapes Go.WideShapes Go.ChangeAt Go.RowKit Go.Shelf
open En Xm
set_option maxRecDepth 100000 in
theorem kindOf_any (v : Value) (t : Tk) (r : List Tk) (w : World) (h : TkRd v (t :: r) w) (hF : Fw 1000000 (t :: r)) :
    Calls Tryz.prog 22 #[v] w fun e w' => e = .returned (.tuple #[if nm1 (t :: r) = sRss then .iface 86 (.agg #[]) else if nm1 (t :: r) = sFeed then .iface 87 (.agg #[]) else .nilIface, .bool (decide (nm1 (t :: r) = sRss) || decide (nm1 (t :: r) = sFeed))]) ∧ w = w' := by
  have HL := Lib.hid (lname_any v t r w h hF)
  obtain ⟨a, c, rfl⟩ := h.slice
  clear h hF
  generalize nm1 (t :: r) = nm at *
  generalize (t :: r).length = m at *
  by_cases h1 : nm = sRss
  · have b1 : (nm == [114, 115, 115]) = true := by rw [h1]; rfl
    rw [if_pos h1, decide_eq_true h1]
    clear h1
    go_enter Tryz.func22, Tryz.ntmps22
    go_wp2_with fail
    refine HL.out.mono ?_
    rintro e w1 ⟨rfl, rfl⟩
    go_wp2
    go_ret2
    exact ⟨rfl, rfl⟩
  · have b1 : (nm == [114, 115, 115]) = false := by simpa [sRss] using h1
    rw [if_neg h1, decide_eq_false h1]
    clear h1
    by_cases h2 : nm = sFeed
    · have b2 : (nm == [102, 101, 101, 100]) = true := by rw [h2]; rfl
      rw [if_pos h2, decide_eq_true h2]
      clear h2
      go_enter Tryz.func22, Tryz.ntmps22
      go_wp2_with fail
      refine HL.out.mono ?_
      rintro e w1 ⟨rfl, rfl⟩
      go_wp2
      go_ret2
      exact ⟨rfl, rfl⟩
    · have b2 : (nm == [102, 101, 101, 100]) = false := by simpa [sFeed] using h2
      rw [if_neg h2, decide_eq_false h2]
      clear h2
      go_enter Tryz.func22, Tryz.ntmps22
      go_wp2_with fail
      refine HL.out.mono ?_
      rintro e w1 ⟨rfl, rfl⟩
      go_wp2
      go_ret2
      exact ⟨rfl, rfl⟩
set_option maxRecDepth 100000 in
theorem bodyA_any (v : Value) (l : List Tk) (w : World) (h : Sml v l w) : Calls Tryz.prog 142 #[.agg #[], v] w fun e w' => e = .returned (.tuple #[v, .bool true]) ∧ Kept w w' := by
  obtain ⟨g, o, c, rfl⟩ := h.sl
  have k0 := Lib.hid ((Kept.refl w).alloc (.cells #[] 87))
  clear h
  go_enter Tryz.func142, Tryz.ntmps142
  go_wp2
  go_ret2
  exact ⟨rfl, k0.out⟩
set_option maxRecDepth 100000 in
theorem bodyR_any (v : Value) (l : List Tk) (w : World) (h : Sml v l w) : Calls Tryz.prog 139 #[.agg #[], v] w fun e w' => ∃ v', e = .returned (.tuple #[v', .bool (hasP [sChan] l)]) ∧ TkRd v' (fstP [sChan] l) w' ∧ Kept w w' := by
  have HC := Lib.hid (fun x (k : Kept w x) nv (hn : SRd nv [sChan] x) => show Calls Tryz.prog 35 #[v, nv] x fun e w' => ∃ v', e = .returned (.tuple #[v', .bool (hasP [sChan] l)]) ∧ TkRd v' (fstP [sChan] l) w' ∧ Kept x w' by
    cases l with
    | nil => exact absurd rfl h.ne
    | cons t r => exact first_any v nv [sChan] t r x (h.kept k).rd hn h.fw)
  obtain ⟨g, o, c, rfl⟩ := h.sl
  clear h
  generalize hasP [sChan] l = hp at *
  generalize fstP [sChan] l = q at *
  have k0 := Lib.hid ((Kept.refl w).alloc (.cells #[] 86))
  go_enter Tryz.func139, Tryz.ntmps139
  go_upto_region 1 with (fail)
  generalize w.alloc (.cells #[] 86) = x0 at *
  have kn := (Kept.refl x0).alloc (.cells ([sChan].map sV).toArray 9 (0, 0))
  go_wp2_with fail
  refine (HC.out _ (k0.out.trans kn) _ ⟨_, _, _, rfl, sr_new x0 [sChan] (by simp) (0, 0)⟩).mono ?_
  rintro e w1 ⟨v', rfl, hq, k1⟩
  have HQ := Lib.hid hq
  have K1 := Lib.hid ((k0.out.trans kn).trans k1)
  obtain ⟨a', c', rfl⟩ := hq.slice
  clear hq k1 kn k0 HC
  generalize q.length = n' at *
  go_wp2
  go_ret2
  exact ⟨_, rfl, HQ.out, K1.out⟩
/-- a feed, and an error -/
def FdP (d : Fee × Int) (w : World) (e : Ending) (w' : World) : Prop := Kept w w' ∧ ∃ v, e = .returned (.tuple #[.agg #[sV d.1.1, v], iV d.2]) ∧ EnO w.heap.size v d.1.2 w'
/-- a feed in a block -/
def Fb (b : Nat) (ti : B) (v : Value) (W : World) : Prop := W.heap[b]? = some (.cells #[sV ti, v] 26)
theorem Fb.lt {b : Nat} {ti : B} {v : Value} {W : World} (h : Fb b ti v W) : b < W.heap.size := (Array.getElem?_eq_some_iff.1 h).1
theorem Fb.kept {b : Nat} {ti : B} {v : Value} {W W' : World} (h : Fb b ti v W) (k : Kept W W') : Fb b ti v W' := (k.block _ h.lt).trans h
theorem Fb.cells {b : Nat} {ti : B} {v : Value} {W : World} (h : Fb b ti v W) : W.cell? ⟨b, 0, none⟩ = some (sV ti) ∧ W.cell? ⟨b, 1, none⟩ = some v := ⟨cell_at h rfl, cell_at h rfl⟩
theorem Fb.frz {b : Nat} {ti : B} {v : Value} {W : World} (h : Fb b ti v W) (j : Nat) : W.frozen? ⟨b, j, none⟩ = false := by unfold Fb at h; simp [World.frozen?, h]
abbrev put2 (x : World) (b : Nat) (ti : B) (v : Value) : World := (x.setCell ⟨b, 0, none⟩ (sV ti)).setCell ⟨b, 1, none⟩ v
theorem Fb.put {b : Nat} {ti ti' : B} {v v' : Value} {x : World} (h : Fb b ti v x) : Fb b ti' v' (put2 x b ti' v') := by
  unfold Fb at h ⊢
  simp [put2, World.setCell, Array.getElem?_modify, h]
theorem kept_put2 {w x : World} (k : Kept w x) {b : Nat} (hb : w.heap.size ≤ b) (ti : B) (v : Value) : Kept w (put2 x b ti v) :=
  (k.setCell (a := ⟨b, 0, none⟩) hb _).setCell (a := ⟨b, 1, none⟩) hb _
theorem EnO.put2 {B0 : Nat} {v x : Value} {es : List Ent} {w : World} {b : Nat} {ti ti' : B} {y : Value} (h : EnO B0 v es w) (hb : Fb b ti y w) : EnO B0 v es (put2 w b ti' x) := by
  have hne : ∀ g, v.ownBlock = some g → g ≠ b := fun g hg e => by
    obtain ⟨c, hc⟩ := own_kind h g hg
    unfold Fb at hb
    rw [e, hb] at hc
    cases hc
  exact (h.set (a := ⟨b, 0, none⟩) hne).set (a := ⟨b, 1, none⟩) hne
theorem fd_err {k : Int} {w W : World} (K : Kept w W) : FdP (([], []), k) w (.returned (.tuple #[.agg #[sV [], .slice none 0 0], iV k])) W := ⟨K, _, rfl, EnO.nil _ _⟩
set_option maxRecDepth 100000 in
set_option maxHeartbeats 8000000 in
theorem extract_any (v : Value) (l : List Tk) (w : World) (h : TkRd v l w) (hF : Fw 1000000 l) (hT : (txs l).length ≤ 100000) (hE : Env w) :
    Calls Tryz.prog 15 #[v] w (FdP (exP Sm.rparse l) w) := by
  have HX := Lib.hid (show exP Sm.rparse l = if nested l = true then
    if nm1 l = sRss then match named [sChan] (parts l) with
      | [] => ((([], []), 2) : Fee × Int)
      | c :: _ => (bodyP sItem entR c, 0)
    else if nm1 l = sFeed then (bodyP sEntry (entA Sm.rparse) l, 0)
    else (([], []), 2)
  else (([], []), 2) from rfl)
  generalize exP Sm.rparse l = d at *
  have HH := Lib.hid h; have HF := Lib.hid hF; have HT := Lib.hid hT; have HE := Lib.hid hE
  obtain ⟨a, c, rfl⟩ := h.slice
  clear h hF hT hE
  have F0 := Lib.hid (show Fb w.heap.size [] (.slice none 0 0) (w.alloc (.cells #[sV [], .slice none 0 0] 26)) from World.alloc_heap_new w _)
  have K0 := Lib.hid ((Kept.refl w).alloc (.cells #[sV [], .slice none 0 0] 26))
  have HN := Lib.hid (nested_any _ l _ (HH.out.kept K0.out) HF.out)
  go_enter Tryz.func15, Tryz.ntmps15
  go_upto_region 1 with (fail)
  generalize w.alloc (.cells #[sV [], .slice none 0 0] 26) = x0 at *
  go_wp2_with fail
  refine HN.out.mono ?_
  rintro e x1 ⟨rfl, k1⟩
  have F1 := Lib.hid (F0.out.kept k1); have K1 := Lib.hid (K0.out.trans k1)
  clear k1 F0 K0 HN
  have fail2 : ∀ (x : World), Fb w.heap.size [] (.slice none 0 0) x → Kept w x → d = (([], []), 2) → Hid (Fb w.heap.size [] (.slice none 0 0) (put2 x w.heap.size [] (.slice none 0 0)) ∧ FdP d w (.returned (.tuple #[.agg #[sV [], .slice none 0 0], iV 2])) (put2 x w.heap.size [] (.slice none 0 0))) :=
    fun x hf hk hd => Lib.hid ⟨hf.put, by rw [hd]; exact fd_err (kept_put2 hk (Nat.le_refl _) _ _)⟩
  have F2 := Lib.hid fail2
  clear fail2
  cases hn : nested l with
  | false =>
    have Z := F2.out x1 F1.out K1.out (by rw [HX.out, hn]; rfl)
    obtain ⟨c0, c1⟩ := F1.out.cells
    have f0 := F1.out.frz 0; have f1 := F1.out.frz 1
    clear HX hn F2 F1 K1
    go_wp2
    obtain ⟨d0, d1⟩ := Z.out.1.cells
    exact bodyPost_ret (v := .tuple #[.agg #[sV [], .slice none 0 0], iV 2]) (by simp [results, Tryz.results15, go_sem, d0, d1]) rfl Z.out.2
  | true =>
    obtain ⟨t, r, rfl⟩ : ∃ t r, l = t :: r := by
      cases l with
      | nil => cases hn
      | cons t r => exact ⟨t, r, rfl⟩
    have HS := Lib.hid (show Sml (.slice a (t :: r).length c) (t :: r) w from ⟨HH.out, HF.out, HT.out, by simp⟩)
    have HK := Lib.hid (kindOf_any _ t r x1 (HH.out.kept K1.out) HF.out)
    rw [hn, if_pos rfl] at HX
    clear HH hn
    have done9 : ∀ (q : List Tk) (ti : B) (es : List Ent) (v' : Value) (x : World), d = ((ti, es), 0) → Fb w.heap.size [] (.slice none 0 0) x → Kept w x → EnO w.heap.size v' es x → Hid (Fb w.heap.size ti v' (put2 x w.heap.size ti v') ∧ FdP d w (.returned (.tuple #[.agg #[sV ti, v'], iV 0])) (put2 x w.heap.size ti v')) :=
      fun q ti es v' x hd hf hk ho => Lib.hid ⟨hf.put, by rw [hd]; exact ⟨kept_put2 hk (Nat.le_refl _) _ _, v', rfl, ho.put2 hf⟩⟩
    have D9 := Lib.hid done9
    clear done9
    by_cases h1 : nm1 (t :: r) = sRss
    · rw [if_pos h1, decide_eq_true h1] at HK
      rw [if_pos h1] at HX
      have hmb := mR_body
      have HB := Lib.hid (bodyR_any _ (t :: r) x1 (HS.out.kept K1.out))
      have HCH := Lib.hid (show (hasP [sChan] (t :: r) = false ∧ d = (([], []), 2)) ∨ (hasP [sChan] (t :: r) = true ∧ fstP [sChan] (t :: r) ≠ [] ∧ d = (bodyP sItem entR (fstP [sChan] (t :: r)), 0)) by
        have e1 := HX.out
        rw [prN_named] at e1
        rw [fstP_eq]
        unfold hasP
        cases hc : prN [sChan] (t :: r) with
        | nil => rw [hc] at e1; exact Or.inl ⟨rfl, e1⟩
        | cons p ps =>
          rw [hc] at e1
          have hpb := prs_bd (List.mem_filter.1 (show p ∈ prN [sChan] (t :: r) by rw [hc]; exact List.mem_cons_self)).1
          exact Or.inr ⟨rfl, fun e => by have := cutP_len hpb; simp only at e; rw [e] at this; simp at this; omega, e1⟩)
      have HFQ := Lib.hid (Fw.fst HF.out [sChan])
      have HTQ := Lib.hid (Nat.le_trans (txs_sub (fstP_sub [sChan] (t :: r))) HT.out)
      clear HX h1 HS HF HT
      generalize hasP [sChan] (t :: r) = hp at *
      generalize fstP [sChan] (t :: r) = q at *
      generalize (t :: r).length = m at *
      go_wp2_with fail
      refine HK.out.mono ?_
      rintro e x2 ⟨rfl, rfl⟩
      simp only [Bool.true_or]
      go_wp2_with fail
      refine HB.out.mono ?_
      rintro e x2 ⟨v2, rfl, hq, k2⟩
      have HQ := Lib.hid hq
      obtain ⟨a2, c2, rfl⟩ := hq.slice
      have F3 := Lib.hid (F1.out.kept k2); have K3 := Lib.hid (K1.out.trans k2)
      clear k2 hq HK HB F1 K1
      rcases HCH.out with ⟨rfl, hd⟩ | ⟨rfl, hne, hd⟩
      · have Z := F2.out x2 F3.out K3.out hd
        obtain ⟨c0, c1⟩ := F3.out.cells
        have f0 := F3.out.frz 0; have f1 := F3.out.frz 1
        clear HCH hd F2 F3 K3 D9 HQ
        go_wp2
        obtain ⟨d0, d1⟩ := Z.out.1.cells
        exact bodyPost_ret (v := .tuple #[.agg #[sV [], .slice none 0 0], iV 2]) (by simp [results, Tryz.results15, go_sem, d0, d1]) rfl Z.out.2
      · have HS2 := Lib.hid (show Sml (.slice a2 q.length c2) q x2 from ⟨HQ.out, HFQ.out, HTQ.out, hne⟩)
        have HV := Lib.hid (vo_any HS2.out (HE.out.kept K3.out) [sTitle] (by simp) x2 (Kept.refl x2) (0, 0))
        have HD := Lib.hid hd
        clear HCH hd F2 HQ hne
        generalize q.length = n2 at *
        go_wp2_with fail
        refine HV.out.mono ?_
        rintro e x3 ⟨rfl, k3⟩
        have HEN := Lib.hid (entriesR_any _ q x3 (HS2.out.kept k3) (HE.out.kept (K3.out.trans k3)))
        have F4 := Lib.hid (F3.out.kept k3); have K4 := Lib.hid (K3.out.trans k3)
        clear k3 F3 K3 HV
        go_wp2_with fail
        refine HEN.out.mono ?_
        rintro e x4 ⟨v4, rfl, ho, k4⟩
        have F5 := Lib.hid (F4.out.kept k4); have K5 := Lib.hid (K4.out.trans k4)
        have O5 := Lib.hid (ho.mono K4.out.size)
        obtain ⟨a5, c5, rfl⟩ := ho.slice
        have Z := D9.out q _ _ _ x4 HD.out F5.out K5.out O5.out
        obtain ⟨c0, c1⟩ := F5.out.cells
        have f0 := F5.out.frz 0; have f1 := F5.out.frz 1
        clear k4 F4 K4 HEN ho D9 F5 K5 O5 HD HS2
        generalize vOf [sTitle] q = ti at *
        generalize List.length (List.map (fun p => cut4 (entR p)) (List.take 200 (named [sItem] (parts q)))) = n5 at *
        go_wp2
        obtain ⟨d0, d1⟩ := Z.out.1.cells
        exact bodyPost_ret (v := .tuple #[.agg #[sV ti, .slice a5 n5 c5], iV 0]) (by simp [results, Tryz.results15, go_sem, d0, d1]) rfl Z.out.2
    · rw [if_neg h1, decide_eq_false h1] at HK
      rw [if_neg h1] at HX
      by_cases h3 : nm1 (t :: r) = sFeed
      · rw [if_pos h3, decide_eq_true h3] at HK
        rw [if_pos h3] at HX
        have hmb := mA_body
        have HB := Lib.hid (bodyA_any _ (t :: r) x1 (HS.out.kept K1.out))
        have HV := Lib.hid (fun x (k : Kept x1 x) => vo_any (HS.out.kept K1.out) (HE.out.kept K1.out) [sTitle] (by simp) x k (0, 0))
        have HEN := Lib.hid (fun x (k : Kept x1 x) => entriesA_any _ (t :: r) x ((HS.out.kept K1.out).kept k) ((HE.out.kept K1.out).kept k))
        have HD := Lib.hid (show d = ((vOf [sTitle] (t :: r), ((named [sEntry] (parts (t :: r))).take 200).map fun p => cut4 (entA Sm.rparse p)), 0) from HX.out)
        clear HX h1 h3 HS HF HT F2
        generalize vOf [sTitle] (t :: r) = ti at *
        generalize ((named [sEntry] (parts (t :: r))).take 200).map (fun p => cut4 (entA Sm.rparse p)) = es at *
        generalize (t :: r).length = m at *
        go_wp2_with fail
        refine HK.out.mono ?_
        rintro e x2 ⟨rfl, rfl⟩
        simp only [Bool.false_or]
        go_wp2_with fail
        refine HB.out.mono ?_
        rintro e x2 ⟨rfl, k2⟩
        clear HK HB
        go_wp2_with fail
        refine (HV.out x2 k2).mono ?_
        rintro e x3 ⟨rfl, k3⟩
        have k23 := k2.trans k3
        go_wp2_with fail
        refine (HEN.out x3 k23).mono ?_
        rintro e x4 ⟨v4, rfl, ho, k4⟩
        have k24 := k23.trans k4
        have F5 := Lib.hid (F1.out.kept k24); have K5 := Lib.hid (K1.out.trans k24)
        have O5 := Lib.hid (ho.mono (K1.out.trans k23).size)
        obtain ⟨a5, c5, rfl⟩ := ho.slice
        have Z := D9.out [] _ _ _ x4 HD.out F5.out K5.out O5.out
        obtain ⟨c0, c1⟩ := F5.out.cells
        have f0 := F5.out.frz 0; have f1 := F5.out.frz 1
        clear k4 k3 k2 k23 k24 F1 K1 HEN HV ho D9 F5 K5 O5 HD
        generalize es.length = n5 at *
        go_wp2
        obtain ⟨d0, d1⟩ := Z.out.1.cells
        exact bodyPost_ret (v := .tuple #[.agg #[sV ti, .slice a5 n5 c5], iV 0]) (by simp [results, Tryz.results15, go_sem, d0, d1]) rfl Z.out.2
      · rw [if_neg h3, decide_eq_false h3] at HK
        rw [if_neg h3] at HX
        have Z := F2.out x1 F1.out K1.out HX.out
        obtain ⟨c0, c1⟩ := F1.out.cells
        have f0 := F1.out.frz 0; have f1 := F1.out.frz 1
        clear HX h1 h3 HS HF HT F2 F1 K1 D9
        generalize (t :: r).length = m at *
        go_wp2_with fail
        refine HK.out.mono ?_
        rintro e x2 ⟨rfl, rfl⟩
        simp only [Bool.false_or]
        clear HK
        go_wp2
        obtain ⟨d0, d1⟩ := Z.out.1.cells
        exact bodyPost_ret (v := .tuple #[.agg #[sV [], .slice none 0 0], iV 2]) (by simp [results, Tryz.results15, go_sem, d0, d1]) rfl Z.out.2
set_option maxRecDepth 100000 in
set_option maxHeartbeats 4000000 in
theorem fread_any (g : Option Addr) (m c : Nat) (doc : B) (w : World) (hE : EX w.heap.size w) (hm : m = doc.length) (hd : doc.length ≤ 100000) (hcv : ∀ x, Kept w x → (convert 30 9 (.slice g m c)).run Tryz.prog x = .ok (sV doc) x) :
    Calls Tryz.prog 9 #[.slice g m c] w (FdP (rdP Sm.rparse doc) w) := by
  have HX := Lib.hid (show rdP Sm.rparse doc = if (tok doc).2 = 0 then exP Sm.rparse (tok doc).1 else (([], []), (tok doc).2) from rfl)
  generalize rdP Sm.rparse doc = d at *
  have F0 := Lib.hid (show Fb w.heap.size [] (.slice none 0 0) (w.alloc (.cells #[sV [], .slice none 0 0] 26)) from World.alloc_heap_new w _)
  have K0 := Lib.hid ((Kept.refl w).alloc (.cells #[sV [], .slice none 0 0] 26))
  have HP := Lib.hid (ptokens_any g m c doc _ ((hE.kept K0.out).mono K0.out.size) hm (fun _ => hcv _ K0.out))
  have HE := Lib.hid hE.1
  have HFW := Lib.hid (show Fw 1000000 (tok doc).1 from (tok_fw doc).mono (by omega))
  have HTX := Lib.hid (show (txs (tok doc).1).length ≤ 100000 from Nat.le_trans (tok_txs doc) hd)
  clear hE hm hd hcv
  go_enter Tryz.func9, Tryz.ntmps9
  go_upto_region 1 with (fail)
  generalize w.alloc (.cells #[sV [], .slice none 0 0] 26) = x0 at *
  go_wp2_with fail
  refine HP.out.mono ?_
  rintro e x1 ⟨k1, v, rfl, hT⟩
  generalize tok doc = td at *
  obtain ⟨l, er⟩ := td
  simp only at hT HFW HTX HX
  have F1 := Lib.hid (F0.out.kept k1); have K1 := Lib.hid (K0.out.trans k1)
  have HR := Lib.hid hT.rd
  obtain ⟨la, lc, hv⟩ := hT.rd.slice
  subst hv
  clear k1 F0 K0 HP hT
  by_cases h0 : er = 0
  · have HEX := Lib.hid (extract_any _ l x1 HR.out HFW.out HTX.out (HE.out.kept K1.out))
    have hb : (er != 0) = false := by simp [h0]
    have HD := Lib.hid (show d = exP Sm.rparse l by rw [HX.out, if_pos h0])
    clear HX HR HFW HTX h0
    generalize l.length = n at *
    go_wp2_with fail
    refine HEX.out.mono ?_
    rw [← HD.out]
    rintro e x2 ⟨k2, v2, rfl, ho⟩
    have F5 := Lib.hid (F1.out.kept k2); have K5 := Lib.hid (K1.out.trans k2)
    have O5 := Lib.hid (ho.mono K1.out.size)
    obtain ⟨a5, c5, rfl⟩ := ho.slice
    obtain ⟨⟨ti, es⟩, e2⟩ := d
    simp only at O5 ho ⊢
    have N5 := Lib.hid (F5.out.put (ti' := ti) (v' := .slice a5 es.length c5))
    have Z := Lib.hid (show FdP ((ti, es), e2) w (.returned (.tuple #[.agg #[sV ti, .slice a5 es.length c5], iV e2])) (put2 x2 w.heap.size ti (.slice a5 es.length c5)) from ⟨kept_put2 K5.out (Nat.le_refl _) _ _, _, rfl, O5.out.put2 F5.out⟩)
    obtain ⟨c0, c1⟩ := F5.out.cells
    have f0 := F5.out.frz 0; have f1 := F5.out.frz 1
    clear k2 F1 K1 HEX ho F5 K5 O5
    generalize es.length = n5 at *
    go_wp2
    obtain ⟨d0, d1⟩ := N5.out.cells
    exact bodyPost_ret (v := .tuple #[.agg #[sV ti, .slice a5 n5 c5], iV e2]) (by simp [results, Tryz.results9, go_sem, d0, d1]) rfl Z.out
  · have hb : (er != 0) = true := by simp [h0]
    have HD := Lib.hid (show d = (([], []), er) by rw [HX.out, if_neg h0])
    have N5 := Lib.hid (F1.out.put (ti' := []) (v' := .slice none 0 0))
    have Z := Lib.hid (show FdP d w (.returned (.tuple #[.agg #[sV [], .slice none 0 0], iV er])) (put2 x1 w.heap.size [] (.slice none 0 0)) by rw [HD.out]; exact fd_err (kept_put2 K1.out (Nat.le_refl _) _ _))
    obtain ⟨c0, c1⟩ := F1.out.cells
    have f0 := F1.out.frz 0; have f1 := F1.out.frz 1
    clear HX HR HFW HTX h0 F1 K1
    generalize l.length = n at *
    go_wp2
    obtain ⟨d0, d1⟩ := N5.out.cells
    exact bodyPost_ret (v := .tuple #[.agg #[sV [], .slice none 0 0], iV er]) (by simp [results, Tryz.results9, go_sem, d0, d1]) rfl Z.out
end Go.Proofs.YtflhmgnhjnaiiaaGreatDoor.Fd
