/- Package ident: keys, the map of what is known, which entries are fresh. -/
import Derived.Test.YtpkkpjonlogliaaDoorIdM
import Derived.Test.YtpkkpjonlogliaaDoorIdFr
import Derived.Maps.OwnSet
import Derived.Maps.AppendAt
import Derived.OwnWalk
set_option linter.unusedSimpArgs false
set_option linter.unusedVariables false
namespace Go.Proofs.YtpkkpjonlogliaaDoor
open Go.ChangeShapes Go.WideShapes Go.ChangeAt Go.RowKit
open En Idn
set_option maxRecDepth 100000 in
set_option maxHeartbeats 4000000 in
theorem key_any (e : Ent) (w : World) (hE : Env w) (hl : Sm5 100000 e) : Calls Tryd.prog 10 #[entV e] w fun r w' => r = .returned (.string ⟨(key e).toArray⟩) ∧ Kept w w' := by
  have HK1 := Lib.hid (fun h => key_id (e := e) h)
  have HK2 := Lib.hid (fun h h2 => key_link (e := e) h h2)
  have HK3 := Lib.hid (fun h h2 => key_title (e := e) h h2)
  have HE := Lib.hid hE
  obtain ⟨l1, l2, l3, l4⟩ := hl
  obtain ⟨a1, a2, a3, a4, a5⟩ := e
  simp only at l1 l2 l3 l4 HK1 HK2 HK3
  have B0 := Lib.hid (Eb.new w (a1, a2, a3, a4, a5))
  have k0 := (Kept.refl w).alloc (.cells (e5 (a1, a2, a3, a4, a5)) 28)
  have K0 := Lib.hid k0
  have HN1 := Lib.hid (fun w hE => norm_any a1 w hE l1)
  have HN3 := Lib.hid (fun w hE => norm_any a3 w hE l3)
  have n1 := norm_len a1
  have n3 := norm_len a3
  generalize norm a1 = x1 at *
  generalize norm a3 = x3 at *
  generalize key (a1, a2, a3, a4, a5) = z at *
  clear hE k0
  go_enter Tryd.func10, Tryd.ntmps10
  go_upto_region 1 with (fail)
  rw [show w.alloc (.cells #[.string ⟨a1.toArray⟩, .string ⟨a2.toArray⟩, .string ⟨a3.toArray⟩, .string ⟨a4.toArray⟩, .int .i64 a5] 28) = w.alloc (.cells (e5 (a1, a2, a3, a4, a5)) 28) from rfl]
  generalize hb : w.heap.size = b at *
  generalize w.alloc (.cells (e5 (a1, a2, a3, a4, a5)) 28) = y0 at *
  clear hb
  obtain ⟨c0, c1, c2, c3, c4⟩ := B0.out.cells
  simp only at c0 c1 c2
  go_wp2_with fail
  refine (HN1.out _ (HE.out.kept K0.out)).mono ?_
  rintro e y1 ⟨rfl, k1⟩
  have K1 := Lib.hid (K0.out.trans k1)
  have B1 := Lib.hid (B0.out.kept k1)
  clear c0 c1 c2 c3 c4 B0 k1
  obtain ⟨c0, c1, c2, c3, c4⟩ := B1.out.cells
  simp only at c0 c1 c2
  by_cases h1 : x1 = []
  · have hb1 : (x1 == []) = true := by simp [h1]
    have he1 : x1.isEmpty = true := by simp [h1]
    have h1' := h1
    clear h1
    go_wp2_with fail
    refine (HN3.out _ (HE.out.kept K1.out)).mono ?_
    rintro e y2 ⟨rfl, k2⟩
    have K2 := Lib.hid (K1.out.trans k2)
    have B2 := Lib.hid (B1.out.kept k2)
    clear c0 c1 c2 c3 c4 B1 k2 K1
    obtain ⟨c0, c1, c2, c3, c4⟩ := B2.out.cells
    simp only at c0 c1 c2
    by_cases h3 : x3 = []
    · have he3 : x3.isEmpty = true := by simp [h3]
      have HZ := Lib.hid (HK3.out h1' h3)
      clear h3 h1' HK1 HK2 HK3
      go_wp2
      go_ret
      exact ⟨by rw [HZ.out]; show Ending.returned (Value.string (⟨[116].toArray⟩ ++ ⟨a2.toArray⟩)) = _; rw [str_app]; rfl, K2.out⟩
    · have he3 : x3.isEmpty = false := by simpa using h3
      have HZ := Lib.hid (HK2.out h1' h3)
      clear h3 h1' HK1 HK2 HK3
      go_wp2
      go_ret
      exact ⟨by rw [HZ.out]; show Ending.returned (Value.string (⟨[108].toArray⟩ ++ ⟨x3.toArray⟩)) = _; rw [str_app]; rfl, K2.out⟩
  · have he1 : x1.isEmpty = false := by simpa using h1
    have HZ := Lib.hid (HK1.out h1)
    clear h1 HK1 HK2 HK3
    go_wp2
    go_ret
    exact ⟨by rw [HZ.out]; show Ending.returned (Value.string (⟨[105].toArray⟩ ++ ⟨x1.toArray⟩)) = _; rw [str_app]; rfl, K1.out⟩
/-! the map of what is known -/
open Go.Maps (Keyed IsMap)
theorem lawK : Keyed Tryd.prog 9 := Go.Maps.string_keyed Tryd.underlying9
theorem zeroU (w : World) : (zeroValue 50).run Tryd.prog w = .ok (.agg #[]) w := by kernel_rfl
theorem keyS_of {x : List UInt8} (h : x.length ≤ maxLen) : keyOf Tryd.prog 9 (.string ⟨x.toArray⟩) = some (.string x) := by
  have := Go.WideMaps.keyOf_string_mk (P := Tryd.prog) Tryd.underlying9 (s := ⟨x.toArray⟩) (by rw [show (ByteArray.mk x.toArray).size = x.length from List.size_toArray]; exact h)
  simpa using this
/-- what is known, in a map -/
def Km (b n : Nat) (K : List (List UInt8)) (w : World) : Prop := ∃ D : DataW Unit, w.ownsMap Tryd.prog 9 unitElem b n D ∧ ∀ x : List UInt8, Go.Maps.has D (.string x) = decide (x ∈ K)
theorem Km.new (w : World) : Km w.heap.size 0 [] (w.alloc (.map #[] 0)) := ⟨_, World.ownsMap_made _ _ _ _, fun x => by simp [Go.Maps.has]⟩
theorem Km.lt {b n : Nat} {K : List (List UInt8)} {w : World} (h : Km b n K w) : b < w.heap.size := by
  obtain ⟨D, h, _⟩ := h
  exact h.lt
theorem Km.kept {b n : Nat} {K : List (List UInt8)} {w w' : World} (h : Km b n K w) (k : Kept w w') : Km b n K w' := by
  obtain ⟨D, ⟨es, cl, hb, h2⟩, h3⟩ := h
  exact ⟨D, ⟨es, cl, (k.block b (Array.getElem?_eq_some_iff.1 hb).1).trans hb, h2⟩, h3⟩
theorem Km.mono {b n n' : Nat} {K : List (List UInt8)} {w : World} (h : Km b n K w) (hn : n ≤ n') : Km b n' K w := by
  obtain ⟨D, h, h2⟩ := h
  exact ⟨D, h.mono hn, h2⟩
theorem Km.congr {b n : Nat} {K K' : List (List UInt8)} {w : World} (h : Km b n K w) (hk : ∀ x, x ∈ K ↔ x ∈ K') : Km b n K' w := by
  obtain ⟨D, h, h2⟩ := h
  exact ⟨D, h, fun x => by rw [h2 x]; exact decide_eq_decide.2 (hk x)⟩
theorem Km.isMap {b n : Nat} {K : List (List UInt8)} {w : World} (h : Km b n K w) : ∃ es cl, w.heap[b]? = some (.map es cl) := by
  obtain ⟨D, ⟨es, cl, hb, _⟩, _⟩ := h
  exact ⟨es, cl, hb⟩
theorem km_put {b n : Nat} {K : List (List UInt8)} {w' : World} {D : DataW Unit} {x : List UInt8} (hD : IsMap D) (h2 : ∀ x : List UInt8, Go.Maps.has D (.string x) = decide (x ∈ K))
    (h : w'.ownsMap Tryd.prog 9 unitElem b n (D.put (.string x) (.agg []))) : Km b n (x :: K) w' := by
  refine ⟨_, h, fun y => ?_⟩
  by_cases e : y = x
  · subst e
    rw [Go.Maps.has_put_same hD (show WideAt.IsKeyLit (.string y) from trivial), eq_comm, decide_eq_true_eq]
    simp
  · rw [Go.Maps.has_put_other (fun c => e (by injection c)), h2 y]
    exact decide_eq_decide.2 (by simp [e])
theorem ob_row {b : Nat} {w w' : World} (hg : w.grownBy w' (some b)) : Ob b w w' := ⟨hg.os, hg.tape, hg.output, hg.size, fun k hk hb => hg.block k hk (by simpa using hb)⟩
/-- is it known; it is known from then on -/
def AdP (b n : Nat) (K : List (List UInt8)) (x : List UInt8) (w : World) (e : Ending) (w' : World) : Prop := e = .returned (.bool (!decide (x ∈ K))) ∧ Ob b w w' ∧ Km b (n + 1) (x :: K) w'
set_option maxRecDepth 100000 in
set_option maxHeartbeats 4000000 in
theorem admit_any (e : Ent) (b n : Nat) (K : List (List UInt8)) (w : World) (hE : Env w) (hl : Sm5 100000 e) (hK : Km b n K w) (hn : n ≤ 1000000) :
    Calls Tryd.prog 21 #[.map (some b), entV e] w (AdP b n K (key e) w) := by
  have HC := Lib.hid (fun x hE => key_any e x hE hl)
  have hkl := key_len hl
  have HE := Lib.hid hE
  have B0 := Lib.hid (Eb.new w e)
  have k0 := (Kept.refl w).alloc (.cells (e5 e) 28)
  have K0 := Lib.hid k0
  have M0 := Lib.hid (hK.kept k0)
  have hblt := hK.lt
  generalize key e = x at *
  clear hE hl hK k0
  have hkey := keyS_of (x := x) (by unfold maxLen; omega)
  obtain ⟨a1, a2, a3, a4, a5⟩ := e
  go_enter Tryd.func21, Tryd.ntmps21
  go_upto_region 1 with (fail)
  rw [show w.alloc (.cells #[.string ⟨a1.toArray⟩, .string ⟨a2.toArray⟩, .string ⟨a3.toArray⟩, .string ⟨a4.toArray⟩, .int .i64 a5] 28) = w.alloc (.cells (e5 (a1, a2, a3, a4, a5)) 28) from rfl]
  generalize hb : w.heap.size = c at *
  generalize w.alloc (.cells (e5 (a1, a2, a3, a4, a5)) 28) = y0 at *
  clear hb
  obtain ⟨c0, c1, c2, c3, c4⟩ := B0.out.cells
  simp only at c0 c1 c2 c3 c4
  go_wp2_with fail
  refine (HC.out _ (HE.out.kept K0.out)).mono ?_
  rintro e y1 ⟨rfl, k1⟩
  have K1 := Lib.hid (K0.out.trans k1)
  obtain ⟨D, hown, hhas⟩ := M0.out.kept k1
  have HD := Lib.hid hown.isMap
  have HH := Lib.hid hhas
  have hx := hhas x
  clear c0 c1 c2 c3 c4 k1 HC M0 hhas
  by_cases hm : x ∈ K
  · rw [decide_eq_true hm] at hx
    have HZ := Lib.hid (show decide (x ∈ K) = true from decide_eq_true hm)
    have HM := Lib.hid hm
    clear hm
    go_wp2_with (first
      | (at_lookup; refine wpList_lookup_own_unit _ rfl _ _ 41 rfl 9 50 lawK Tryd.underlying41 (zeroU _) b n _ rfl hown _ _ rfl hkey ?_; rw [hx]))
    have k2 := K1.out.trans ((Kept.refl y1).alloc (.cells #[] 50))
    go_ret
    exact ⟨by rw [HZ.out]; rfl, (Ob.refl b w).kept k2, (show Km b n K _ from ⟨D, hown.alloc _, HH.out⟩).mono (Nat.le_succ n) |>.congr (fun z => ⟨fun q => List.mem_cons_of_mem _ q, fun q => by rcases List.mem_cons.1 q with r | r; (rw [r]; exact HM.out); exact r⟩)⟩
  · rw [decide_eq_false hm] at hx
    have HZ := Lib.hid (show decide (x ∈ K) = false from decide_eq_false hm)
    clear hm
    go_wp2_with (first
      | (at_lookup; refine wpList_lookup_own_unit _ rfl _ _ 41 rfl 9 50 lawK Tryd.underlying41 (zeroU _) b n _ rfl hown _ _ rfl hkey ?_; rw [hx])
      | (at_mapUpdate; refine wpList_mapUpdate_own _ rfl _ _ _ 41 rfl 9 50 lawK Tryd.underlying41 (unitElem (H := Unit)) b n _ rfl (hown.alloc _) (by unfold maxLen; omega) _ _ _ rfl rfl hkey _ [] unitElem_mk ?_; intro w1 hown1 hgrow1))
    have k2 := K1.out.trans ((Kept.refl y1).alloc (.cells #[] 50))
    have o2 := ((Ob.refl b w).kept k2).trans (ob_row hgrow1)
    go_ret
    exact ⟨by rw [HZ.out]; rfl, o2, km_put HD.out HH.out hown1⟩
/-- texts, to be read -/
def TxRd (v : Value) (l : List B) (w : World) : Prop := ∃ a c, v = .slice a l.length c ∧ (a = none → c = 0) ∧ (l ≠ [] → ∃ g o, a = some ⟨g, o, none⟩ ∧ l.length ≤ c ∧ ∀ (i : Nat) (s : B), l[i]? = some s → w.cell? ⟨g, o + i, none⟩ = some (sV s))
theorem TxRd.kept {v : Value} {l : List B} {w w' : World} (h : TxRd v l w) (k : Kept w w') : TxRd v l w' := by
  obtain ⟨a, c, hv, hz, h⟩ := h
  refine ⟨a, c, hv, hz, fun hne => ?_⟩
  obtain ⟨g, o, ha, hc, h⟩ := h hne
  exact ⟨g, o, ha, hc, fun i t ht => k.yes (h i t ht)⟩
theorem TxRd.slice {v : Value} {l : List B} {w : World} (h : TxRd v l w) : ∃ a c, v = .slice a l.length c := by
  obtain ⟨a, c, hv, _⟩ := h
  exact ⟨a, c, hv⟩
theorem TxRd.at {a : Option Addr} {n c : Nat} {l : List B} {w : World} (h : TxRd (.slice a n c) l w) {i : Nat} {s : B} (hs : l[i]? = some s) : n = l.length ∧ ∃ g o, a = some ⟨g, o, none⟩ ∧ l.length ≤ c ∧ w.cell? ⟨g, o + i, none⟩ = some (sV s) := by
  obtain ⟨a', c', hv, -, h⟩ := h
  cases hv
  obtain ⟨g, o, ha, hc, h⟩ := h (fun q => by rw [q] at hs; simp at hs)
  exact ⟨rfl, g, o, ha, hc, h i s hs⟩
theorem run_mk (n : Int) (W : World) : (Instr.makeMap 41 (some (.int .i64 n))).run Tryd.prog W = .ok (.map (some W.heap.size)) (W.alloc (.map #[] 0)) := by
  simp [Instr.makeMap, run_underlying Tryd.underlying41, asInt, asIntOf, Result.andThen]
theorem take_mem {l : List B} {i : Nat} {s : B} (h : l[i]? = some s) (x : B) : x ∈ s :: l.take i ↔ x ∈ l.take (i + 1) := by
  rw [List.take_add_one, h]
  simp [or_comm]
set_option maxRecDepth 100000 in
set_option maxHeartbeats 4000000 in
theorem keysOf_any (v : Value) (ks : List B) (w : World) (h : TxRd v ks w) (hl : ks.length ≤ 1000) (hs : ∀ s ∈ ks, s.length ≤ maxLen) :
    Calls Tryd.prog 20 #[v] w fun e w' => e = .returned (.map (some w.heap.size)) ∧ Kept w w' ∧ Km w.heap.size ks.length ks w' := by
  have hmm := fun n => run_mk n
  obtain ⟨a, c, hv⟩ := h.slice
  subst hv
  have T0 := Lib.hid h
  have HS := Lib.hid hs
  clear h hs
  go_enter Tryd.func20, Tryd.ntmps20
  go_wp2
  go_loopw [11] (fun vi wr => ∃ i : Nat, i ≤ ks.length ∧ vi = .int .i64 i ∧ Hid (Kept w wr) ∧ Hid (Km w.heap.size i (ks.take i) wr)) (fun vi _ => ks.length - (intOf vi).toNat)
  case atStart => exact ⟨0, Nat.zero_le _, rfl, Lib.hid ((Kept.refl w).alloc _), Lib.hid (Km.new w)⟩
  case round =>
    obtain ⟨i, hi, rfl, hK, hM⟩ := hrel
    by_cases hlt : i < ks.length
    · have hltI : (i : Int) < ks.length := by omega
      obtain ⟨s, hsi⟩ : ∃ s, ks[i]? = some s := ⟨_, List.getElem?_eq_getElem hlt⟩
      obtain ⟨-, g, o, rfl, hc, p0⟩ := (T0.out.kept hK.out).at hsi
      have hkey := keyS_of (x := s) (HS.out s (List.mem_of_getElem? hsi))
      obtain ⟨D, hown, hhas⟩ := hM.out
      have HD := Lib.hid hown.isMap
      have HH := Lib.hid hhas
      have HT := Lib.hid (fun x => take_mem hsi x)
      clear hhas hsi hM
      go_wp2_with (first
        | (at_mapUpdate; refine wpList_mapUpdate_own _ rfl _ _ _ 41 rfl 9 50 lawK Tryd.underlying41 (unitElem (H := Unit)) w.heap.size i _ rfl hown (by unfold maxLen; omega) _ _ _ rfl rfl hkey _ [] unitElem_mk ?_; intro w1 hown1 hgrow1))
      have K2 := Lib.hid (show Kept w w1 from by
        have o2 := ob_row hgrow1
        exact ⟨o2.os.trans hK.out.os, o2.output.trans hK.out.output, Nat.le_trans hK.out.size o2.size, fun k hk => (o2.block k (Nat.lt_of_lt_of_le hk hK.out.size) (by omega)).trans (hK.out.block k hk), o2.tape.trans hK.out.tape⟩)
      have M2 := Lib.hid ((km_put HD.out HH.out hown1).congr HT.out)
      go_roundw
      case rel => exact ⟨i + 1, hlt, by go_num, K2, M2⟩
      case measure => simp [intOf]; omega
    · obtain rfl : i = ks.length := by omega
      have M2 := hM.out
      rw [List.take_length] at M2
      have M3 := Lib.hid M2
      clear M2 hM
      go_wp2
      go_ret
      exact ⟨rfl, hK.out, M3.out⟩
end Go.Proofs.YtpkkpjonlogliaaDoor
