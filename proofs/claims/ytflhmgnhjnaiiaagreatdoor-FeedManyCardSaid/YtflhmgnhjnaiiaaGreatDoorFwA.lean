/- The laws of feeds: entries to be read, the document's Same; words. -/
import Derived.Test.YtflhmgnhjnaiiaaGreatDoorFdX
import Derived.BigQuiet
set_option linter.unusedSimpArgs false
set_option linter.unusedVariables false
namespace Go.Proofs.YtflhmgnhjnaiiaaGreatDoor.Fd
open Go.ChangeShapes Go.WideShapes Go.ChangeAt Go.RowKit
open En Xm
/-- an entry's cells -/
def EnAt (g o : Nat) (e : Ent) (w : World) : Prop := w.cell? ⟨g, o, none⟩ = some (sV e.1) ∧ w.cell? ⟨g, o + 1, none⟩ = some (sV e.2.1) ∧ w.cell? ⟨g, o + 2, none⟩ = some (sV e.2.2.1) ∧ w.cell? ⟨g, o + 3, none⟩ = some (sV e.2.2.2.1) ∧ w.cell? ⟨g, o + 4, none⟩ = some (iV e.2.2.2.2)
/-- entries, to be read -/
def EnRd (v : Value) (es : List Ent) (w : World) : Prop := ∃ a c, v = .slice a es.length c ∧ (es ≠ [] → ∃ g o, a = some ⟨g, o, none⟩ ∧ es.length ≤ c ∧ ∀ (i : Nat) (e : Ent), es[i]? = some e → EnAt g (o + i * 5) e w)
theorem EnAt.kept {g o : Nat} {e : Ent} {w w' : World} (h : EnAt g o e w) (k : Kept w w') : EnAt g o e w' := ⟨k.yes h.1, k.yes h.2.1, k.yes h.2.2.1, k.yes h.2.2.2.1, k.yes h.2.2.2.2⟩
theorem EnRd.kept {v : Value} {es : List Ent} {w w' : World} (h : EnRd v es w) (k : Kept w w') : EnRd v es w' := by
  obtain ⟨a, c, hv, h⟩ := h
  refine ⟨a, c, hv, fun hne => ?_⟩
  obtain ⟨g, o, ha, hc, h⟩ := h hne
  exact ⟨g, o, ha, hc, fun i e he => (h i e he).kept k⟩
theorem EnRd.slice {v : Value} {es : List Ent} {w : World} (h : EnRd v es w) : ∃ a c, v = .slice a es.length c := by
  obtain ⟨a, c, hv, _⟩ := h
  exact ⟨a, c, hv⟩
theorem EnRd.at {a : Option Addr} {n c : Nat} {es : List Ent} {w : World} (h : EnRd (.slice a n c) es w) {i : Nat} {e : Ent} (he : es[i]? = some e) : n = es.length ∧ ∃ g o, a = some ⟨g, o, none⟩ ∧ es.length ≤ c ∧ EnAt g (o + i * 5) e w := by
  obtain ⟨a', c', hv, h⟩ := h
  cases hv
  obtain ⟨g, o, ha, hc, h⟩ := h (fun q => by rw [q] at he; simp at he)
  exact ⟨rfl, g, o, ha, hc, h i e he⟩
theorem flat5 : ∀ {es : List Ent} {k : Nat} {e : Ent}, es[k]? = some e → (es.flatMap eCells)[k * 5]? = some (sV e.1) ∧ (es.flatMap eCells)[k * 5 + 1]? = some (sV e.2.1) ∧ (es.flatMap eCells)[k * 5 + 2]? = some (sV e.2.2.1) ∧ (es.flatMap eCells)[k * 5 + 3]? = some (sV e.2.2.2.1) ∧ (es.flatMap eCells)[k * 5 + 4]? = some (iV e.2.2.2.2)
  | [], k, e, h => by simp at h
  | a :: es, 0, e, h => by
    simp only [List.getElem?_cons_zero, Option.some.injEq] at h
    subst h; exact ⟨rfl, rfl, rfl, rfl, rfl⟩
  | a :: es, k + 1, e, h => by
    simp only [List.getElem?_cons_succ] at h
    rw [List.flatMap_cons, show (k + 1) * 5 = k * 5 + 5 by omega, show k * 5 + 5 + 1 = k * 5 + 1 + 5 by omega, show k * 5 + 5 + 2 = k * 5 + 2 + 5 by omega, show k * 5 + 5 + 3 = k * 5 + 3 + 5 by omega, show k * 5 + 5 + 4 = k * 5 + 4 + 5 by omega]
    exact flat5 h
theorem EnO.rd {B0 : Nat} {v : Value} {es : List Ent} {w : World} (h : EnO B0 v es w) : EnRd v es w := by
  by_cases hne : es = []
  · obtain ⟨a, c, hv⟩ := own_slice h
    exact ⟨a, c, hv, fun q => absurd hne q⟩
  · obtain ⟨g, cap, hv, hc, _⟩ := own_some h (fun e => hne (List.length_eq_zero_iff.1 e))
    refine ⟨_, cap, hv, fun _ => ⟨g, 0, rfl, hc, fun i e he => ?_⟩⟩
    have hi := (List.getElem?_eq_some_iff.1 he).1
    have h' := h
    unfold EnO at h'
    rw [hv] at h'
    obtain ⟨f0, f1, f2, f3, f4⟩ := flat5 he
    rw [Nat.zero_add]
    exact ⟨by rw [World.ownsRow.cellAt h' (i * 5) (by omega), f0], by rw [World.ownsRow.cellAt h' (i * 5 + 1) (by omega), f1], by rw [World.ownsRow.cellAt h' (i * 5 + 2) (by omega), f2], by rw [World.ownsRow.cellAt h' (i * 5 + 3) (by omega), f3], by rw [World.ownsRow.cellAt h' (i * 5 + 4) (by omega), f4]⟩
set_option maxRecDepth 100000 in
theorem eq_ent (a b : Ent) (w : World) : (Op.equalIn 10000 32 (entV a) (entV b)).run Tryz.prog w = .ok (a == b) w := by
  have h1 : Tryz.prog.stoodInHeld 32 = false := by kernel_rfl
  rw [run_equalIn_struct w 9999 32 _ _ (by simp [go_sem]) h1]
  simp [go_sem]
  simp only [if_ok, if_bb, Bool.and_true]
  congr 1
  rw [Bool.eq_iff_iff]
  obtain ⟨a1, a2, a3, a4, a5⟩ := a
  obtain ⟨b1, b2, b3, b4, b5⟩ := b
  simp
theorem neq_ent (a b : Ent) (w : World) : (binOp .neq 32 (entV a) (entV b)).run Tryz.prog w = .ok (.bool (!(a == b))) w := by
  rw [run_neq_struct, eq_ent]; rfl
instance entDec : DecidableEq Ent := @instDecidableEqProd B (B × B × B × Int) inferInstance (@instDecidableEqProd B (B × B × Int) inferInstance (@instDecidableEqProd B (B × Int) inferInstance inferInstance))
instance feeDec : DecidableEq Fee := @instDecidableEqProd B (List Ent) inferInstance inferInstance
def FsP (a b : Fee) (w : World) (e : Ending) (w' : World) : Prop := e = .returned (.bool (decide (a = b))) ∧ Kept w w'
set_option maxRecDepth 100000 in
set_option maxHeartbeats 4000000 in
theorem fsame_any (t t' : B) (l l' : List Ent) (v v' : Value) (w : World) (h : EnRd v l w) (h' : EnRd v' l' w) (hl : l.length ≤ 1000000) (hl' : l'.length ≤ 1000000) :
    Calls Tryz.prog 10 #[.agg #[sV t, v], .agg #[sV t', v']] w (FsP (t, l) (t', l') w) := by
  obtain ⟨a, c, hv⟩ := h.slice
  obtain ⟨a', c', hv'⟩ := h'.slice
  subst hv hv'
  have k0 := ((Kept.refl w).alloc (.cells #[sV t, .slice a l.length c] 26)).alloc (.cells #[sV t', .slice a' l'.length c'] 26)
  have F := Lib.hid (show Fb w.heap.size t (.slice a l.length c) ((w.alloc (.cells #[sV t, .slice a l.length c] 26)).alloc (.cells #[sV t', .slice a' l'.length c'] 26)) ∧ Fb (w.heap.size + 1) t' (.slice a' l'.length c') ((w.alloc (.cells #[sV t, .slice a l.length c] 26)).alloc (.cells #[sV t', .slice a' l'.length c'] 26)) from by
    have q1 : Fb w.heap.size t (.slice a l.length c) (w.alloc (.cells #[sV t, .slice a l.length c] 26)) := World.alloc_heap_new w _
    have q2 : Fb (w.alloc (.cells #[sV t, .slice a l.length c] 26)).heap.size t' (.slice a' l'.length c') ((w.alloc (.cells #[sV t, .slice a l.length c] 26)).alloc (.cells #[sV t', .slice a' l'.length c'] 26)) := World.alloc_heap_new _ _
    rw [show (w.alloc (.cells #[sV t, .slice a l.length c] 26)).heap.size = w.heap.size + 1 by simp] at q2
    exact ⟨q1.kept ((Kept.refl _).alloc _), q2⟩)
  have K0 := Lib.hid k0
  have HA := Lib.hid (h.kept k0); have HB := Lib.hid (h'.kept k0)
  clear h h' k0
  by_cases ht : t = t'
  · have bt : (t == t') = true := by simp [ht]
    by_cases hlen : l.length = l'.length
    · have bl : ((l.length : Int) == l'.length) = true := by simp [hlen]
      have HL := Lib.hid hlen; have HT := Lib.hid ht
      clear ht hlen
      go_enter Tryz.func10, Tryz.ntmps10
      go_upto_region 1 with (fail)
      generalize (w.alloc (.cells #[sV t, .slice a l.length c] 26)).alloc (.cells #[sV t', .slice a' l'.length c'] 26) = x at *
      obtain ⟨c0, c1⟩ := F.out.1.cells
      obtain ⟨d0, d1⟩ := F.out.2.cells
      go_wp2_with fail
      clear c0 c1 d0 d1
      go_loopw [5] (fun vi wr => ∃ i : Nat, i ≤ l.length ∧ vi = .int .i64 i ∧ Hid (Kept x wr) ∧ Hid (l.take i = l'.take i)) (fun vi _ => l.length - (intOf vi).toNat)
      case atStart => exact ⟨0, Nat.zero_le _, rfl, Lib.hid (Kept.refl x), Lib.hid rfl⟩
      case round =>
        obtain ⟨i, hi, rfl, hK, hT⟩ := hrel
        obtain ⟨c0, c1⟩ := (F.out.1.kept hK.out).cells
        obtain ⟨d0, d1⟩ := (F.out.2.kept hK.out).cells
        by_cases hlt : i < l.length
        · have hltI : (i : Int) < l.length := by omega
          have hltJ : (i : Int) < l'.length := by have := HL.out; omega
          obtain ⟨u, hu⟩ : ∃ u, l[i]? = some u := ⟨_, List.getElem?_eq_getElem hlt⟩
          obtain ⟨u', hu'⟩ : ∃ u', l'[i]? = some u' := ⟨_, List.getElem?_eq_getElem (by rw [← HL.out]; exact hlt)⟩
          obtain ⟨-, ga, oa, hpa, hca, p0, p1, p2, p3, p4⟩ := (HA.out.kept hK.out).at hu
          obtain ⟨-, gb, ob, hpb, hcb, g0, g1, g2, g3, g4⟩ := (HB.out.kept hK.out).at hu'
          subst hpa hpb
          have hneq := neq_ent u u'
          have HU := Lib.hid (fun (q : u ≠ u') => take_ne hu hu' q)
          have HUT := Lib.hid (fun (q : u = u') => take_eq hT.out hu hu' q)
          clear hu hu' hT
          by_cases huu : u = u'
          · have bu : (u == u') = true := by simp [huu]
            have HN2 := Lib.hid (HUT.out huu)
            rw [bu] at hneq
            clear huu bu HU HUT
            go_upto_region 6 with (fail)
            go_quiet (fail)
            have K2 := Lib.hid (hK.out.drewN nq)
            clear hK p0 p1 p2 p3 p4 g0 g1 g2 g3 g4 c0 c1 d0 d1
            go_wp2
            go_roundw
            case rel => exact ⟨i + 1, hlt, by go_num, K2, HN2⟩
            case measure => simp [intOf]; omega
          · have bu : (u == u') = false := by simp [huu]
            rw [bu] at hneq
            have hbad : l ≠ l' := HU.out huu
            clear huu bu HU HUT
            go_upto_region 6 with (fail)
            go_quiet (fail)
            have Z := Lib.hid (show FsP (t, l) (t', l') w (.returned (.bool false)) (wr.drewN nq) from ⟨by rw [decide_eq_false (fun e => hbad (Prod.mk.inj e).2)], K0.out.trans (hK.out.drewN nq)⟩)
            clear hK p0 p1 p2 p3 p4 g0 g1 g2 g3 g4 c0 c1 d0 d1
            go_wp2
            go_ret
            exact Z.out
        · have hltI : ¬ (i : Int) < l.length := by omega
          have Z := Lib.hid (show FsP (t, l) (t', l') w (.returned (.bool true)) wr from ⟨by
            have := hT.out
            rw [List.take_of_length_le (by omega), List.take_of_length_le (by rw [← HL.out]; omega)] at this
            rw [decide_eq_true (by rw [HT.out, this])], K0.out.trans hK.out⟩)
          clear hT hK d0 d1
          go_wp2
          go_ret
          exact Z.out
    · have bl : ((l.length : Int) == l'.length) = false := by simp; omega
      have bl2 : ((l.length : Int) != l'.length) = true := by simp; omega
      have Z := Lib.hid (show FsP (t, l) (t', l') w (.returned (.bool false)) _ from ⟨by rw [decide_eq_false (fun e => hlen (by rw [(Prod.mk.inj e).2]))], K0.out⟩)
      clear ht hlen
      go_enter Tryz.func10, Tryz.ntmps10
      go_upto_region 1 with (fail)
      generalize (w.alloc (.cells #[sV t, .slice a l.length c] 26)).alloc (.cells #[sV t', .slice a' l'.length c'] 26) = x at *
      obtain ⟨c0, c1⟩ := F.out.1.cells
      obtain ⟨d0, d1⟩ := F.out.2.cells
      clear HA HB K0
      go_wp2
      go_ret
      exact Z.out
  · have bt : (t == t') = false := by simp [ht]
    have Z := Lib.hid (show FsP (t, l) (t', l') w (.returned (.bool false)) _ from ⟨by rw [decide_eq_false (fun e => ht (Prod.mk.inj e).1)], K0.out⟩)
    go_enter Tryz.func10, Tryz.ntmps10
    go_upto_region 1 with (fail)
    generalize (w.alloc (.cells #[sV t, .slice a l.length c] 26)).alloc (.cells #[sV t', .slice a' l'.length c'] 26) = x at *
    obtain ⟨c0, c1⟩ := F.out.1.cells
    obtain ⟨d0, d1⟩ := F.out.2.cells
    clear ht HA HB K0
    go_wp2
    go_ret
    exact Z.out
end Go.Proofs.YtflhmgnhjnaiiaaGreatDoor.Fd
