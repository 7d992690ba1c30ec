/- The laws of layer ident: what they have in common. -/
import Derived.Test.YtpkkpjonlogliaaDoorIdS
import Derived.BigQuiet
set_option linter.unusedSimpArgs false
set_option linter.unusedVariables false
namespace Go.Proofs.YtpkkpjonlogliaaDoor
open Go.ChangeShapes Go.WideShapes Go.ChangeAt Go.RowKit
open En Idn
def FewP (n : Int) (l : List Ent) : Prop := (l.length : Int) ≤ n ∧ ∀ e ∈ l, Sm5 300 e
instance smDec (n : Nat) (e : Ent) : Decidable (Sm5 n e) := by unfold Sm5; infer_instance
instance fewDec (n : Int) (l : List Ent) : Decidable (FewP n l) := by unfold FewP; infer_instance
theorem few_not {n : Int} {l : List Ent} {i : Nat} {e : Ent} (h : l[i]? = some e) (q : ¬ Sm5 300 e) : ¬ FewP n l := fun f => q (f.2 e (List.mem_of_getElem? h))
set_option maxRecDepth 100000 in
set_option maxHeartbeats 4000000 in
theorem few_any (v : Value) (l : List Ent) (n : Int) (w : World) (h : EnRd v l w) (hl : l.length ≤ maxLen) : Calls Tryd.prog 9 #[v, .int .i64 n] w fun e w' => e = .returned (.bool (decide (FewP n l))) ∧ w = w' := by
  obtain ⟨a, c, hv⟩ := h.slice
  subst hv
  have H := Lib.hid h
  have hml : (l.length : Int) ≤ 9223372036854775807 := by unfold maxLen at hl; omega
  clear h
  by_cases hn : n < (l.length : Int)
  · have HR := Lib.hid (show decide (FewP n l) = false from decide_eq_false (fun f => by have := f.1; omega))
    generalize decide (FewP n l) = z at *
    go_enter Tryd.func9, Tryd.ntmps9
    go_wp2
    go_ret
    exact ⟨by rw [HR.out]; rfl, rfl⟩
  have HD := Lib.hid (fun (b : Bool) (q : decide (FewP n l) = b) => q)
  have HY := Lib.hid (fun (q : ∀ e ∈ l, Sm5 300 e) => show decide (FewP n l) = true from decide_eq_true ⟨by omega, q⟩)
  have HX := Lib.hid (fun (i : Nat) (e : Ent) (h : l[i]? = some e) (q : ¬ Sm5 300 e) => show decide (FewP n l) = false from decide_eq_false (few_not h q))
  generalize decide (FewP n l) = z at *
  clear HD
  go_enter Tryd.func9, Tryd.ntmps9
  go_wp2_with fail
  go_loopw [5] (fun vi wr => ∃ i : Nat, i ≤ l.length ∧ vi = .int .i64 i ∧ wr = w ∧ Hid (∀ e ∈ l.take i, Sm5 300 e)) (fun vi _ => l.length - (intOf vi).toNat)
  case atStart => exact ⟨0, Nat.zero_le _, rfl, rfl, Lib.hid (by simp)⟩
  case round =>
    obtain ⟨i, hi, rfl, rfl, hN⟩ := hrel
    by_cases hlt : i < l.length
    · have hltI : (i : Int) < l.length := by omega
      obtain ⟨e, hei⟩ : ∃ e, l[i]? = some e := ⟨_, List.getElem?_eq_getElem hlt⟩
      obtain ⟨-, g, o, rfl, hc, p0, p1, p2, p3, p4⟩ := H.out.at hei
      have HX2 := Lib.hid (HX.out i e hei)
      have HN2 := Lib.hid (fun (q : Sm5 300 e) => show ∀ e ∈ l.take (i + 1), Sm5 300 e from by
        rw [List.take_add_one, hei]
        intro d hd
        rw [List.mem_append] at hd
        rcases hd with hd | hd
        · exact hN.out d hd
        · simp at hd; subst hd; exact q)
      obtain ⟨a1, a2, a3, a4, a5⟩ := e
      simp only at p0 p1 p2 p3 p4
      clear hei hN
      by_cases h1 : (300 : Int) < a1.length
      · have HR := Lib.hid (HX2.out (fun q => by have := q.1; simp only at this; omega))
        clear HX2 HN2
        go_wp2
        go_ret
        exact ⟨by rw [HR.out]; rfl, rfl⟩
      by_cases h2 : (300 : Int) < a2.length
      · have HR := Lib.hid (HX2.out (fun q => by have := q.2.1; simp only at this; omega))
        clear HX2 HN2
        go_wp2
        go_ret
        exact ⟨by rw [HR.out]; rfl, rfl⟩
      by_cases h3 : (300 : Int) < a3.length
      · have HR := Lib.hid (HX2.out (fun q => by have := q.2.2.1; simp only at this; omega))
        clear HX2 HN2
        go_wp2
        go_ret
        exact ⟨by rw [HR.out]; rfl, rfl⟩
      by_cases h4 : (300 : Int) < a4.length
      · have HR := Lib.hid (HX2.out (fun q => by have := q.2.2.2; simp only at this; omega))
        clear HX2 HN2
        go_wp2
        go_ret
        exact ⟨by rw [HR.out]; rfl, rfl⟩
      have HN3 := Lib.hid (HN2.out ⟨by simp only; omega, by simp only; omega, by simp only; omega, by simp only; omega⟩)
      clear HX2 HN2
      go_wp2
      go_roundw
      case rel => exact ⟨i + 1, hlt, by go_num, trivial, HN3⟩
      case measure => simp [intOf]; omega
    · have HR := Lib.hid (HY.out (by have := hN.out; rwa [List.take_of_length_le (by omega)] at this))
      clear hN
      go_wp2
      go_ret
      exact ⟨by rw [HR.out]; rfl, rfl⟩
def SmP (l l' : List Ent) (w : World) (e : Ending) (w' : World) : Prop := e = .returned (.bool (decide (l = l'))) ∧ Kept w w'
set_option maxRecDepth 100000 in
set_option maxHeartbeats 4000000 in
theorem same_any (l l' : List Ent) (v v' : Value) (w : World) (h : EnRd v l w) (h' : EnRd v' l' w) (hl : l.length ≤ 1000000) (hl' : l'.length ≤ 1000000) :
    Calls Tryd.prog 12 #[v, v'] w (SmP l l' w) := by
  obtain ⟨a, c, hv⟩ := h.slice
  obtain ⟨a', c', hv'⟩ := h'.slice
  subst hv hv'
  have HA := Lib.hid h; have HB := Lib.hid h'
  clear h h'
  by_cases hlen : l.length = l'.length
  · have bl : ((l.length : Int) == l'.length) = true := by simp [hlen]
    have bl2 : ((l.length : Int) != l'.length) = false := by simp [hlen]
    have HL := Lib.hid hlen
    clear hlen
    go_enter Tryd.func12, Tryd.ntmps12
    go_wp2_with fail
    go_loopw [5] (fun vi wr => ∃ i : Nat, i ≤ l.length ∧ vi = .int .i64 i ∧ Hid (Kept w wr) ∧ Hid (l.take i = l'.take i)) (fun vi _ => l.length - (intOf vi).toNat)
    case atStart => exact ⟨0, Nat.zero_le _, rfl, Lib.hid (Kept.refl w), Lib.hid rfl⟩
    case round =>
      obtain ⟨i, hi, rfl, hK, hT⟩ := hrel
      by_cases hlt : i < l.length
      · have hltI : (i : Int) < l.length := by omega
        have hltJ : (i : Int) < l'.length := by have := HL.out; omega
        obtain ⟨u, hu⟩ : ∃ u, l[i]? = some u := ⟨_, List.getElem?_eq_getElem hlt⟩
        obtain ⟨u', hu'⟩ : ∃ u', l'[i]? = some u' := ⟨_, List.getElem?_eq_getElem (by rw [← HL.out]; exact hlt)⟩
        obtain ⟨-, ga, oa, hpa, hca, p0, p1, p2, p3, p4⟩ := (HA.out.kept hK.out).at hu
        obtain ⟨-, gb, ob, hpb, hcb, g0, g1, g2, g3, g4⟩ := (HB.out.kept hK.out).at hu'
        subst hpa hpb
        have hneq := neq_ent u u'
        have HU := Lib.hid (fun (q : u ≠ u') => take_ne hu hu' q)
        have HUT := Lib.hid (fun (q : u = u') => take_eq hT.out hu hu' q)
        clear hu hu' hT
        by_cases huu : u = u'
        · have bu : (u == u') = true := by simp [huu]
          have HN2 := Lib.hid (HUT.out huu)
          rw [bu] at hneq
          clear huu bu HU HUT
          go_upto_region 6 with (fail)
          go_quiet (fail)
          have K2 := Lib.hid (hK.out.drewN nq)
          clear hK p0 p1 p2 p3 p4 g0 g1 g2 g3 g4
          go_wp2
          go_roundw
          case rel => exact ⟨i + 1, hlt, by go_num, K2, HN2⟩
          case measure => simp [intOf]; omega
        · have bu : (u == u') = false := by simp [huu]
          rw [bu] at hneq
          have hbad : l ≠ l' := HU.out huu
          clear huu bu HU HUT
          go_upto_region 6 with (fail)
          go_quiet (fail)
          have Z := Lib.hid (show SmP l l' w (.returned (.bool false)) (wr.drewN nq) from ⟨by rw [decide_eq_false hbad], hK.out.drewN nq⟩)
          clear hK p0 p1 p2 p3 p4 g0 g1 g2 g3 g4
          go_wp2
          go_ret
          exact Z.out
      · have hltI : ¬ (i : Int) < l.length := by omega
        have Z := Lib.hid (show SmP l l' w (.returned (.bool true)) wr from ⟨by
          have := hT.out
          rw [List.take_of_length_le (by omega), List.take_of_length_le (by rw [← HL.out]; omega)] at this
          rw [decide_eq_true this], hK.out⟩)
        clear hT hK
        go_wp2
        go_ret
        exact Z.out
  · have bl : ((l.length : Int) == l'.length) = false := by simp; omega
    have bl2 : ((l.length : Int) != l'.length) = true := by simp; omega
    have Z := Lib.hid (show SmP l l' w (.returned (.bool false)) w from ⟨by rw [decide_eq_false (fun e => hlen (by rw [e]))], Kept.refl w⟩)
    clear hlen
    go_enter Tryd.func12, Tryd.ntmps12
    go_wp2
    go_ret
    exact Z.out
def exA : B := [72, 84, 84, 80, 58, 47, 47, 69, 120, 46, 79, 114, 103, 58, 56, 48, 35, 116, 111, 112]
theorem exA_norm : norm exA = [104, 116, 116, 112, 58, 47, 47, 101, 120, 46, 111, 114, 103, 47] := by decide +kernel
theorem exB_key : key ([], [], [98], [], 0) = [108, 98] := by decide +kernel
theorem exC_fr : (fr [[105, 97]] [([97], [], [], [], 0), ([98], [], [], [], 0), ([98], [], [], [], 0)]).length = 1 := by decide +kernel
theorem tx_new1 (w : World) (x : B) : TxRd (.slice (some ⟨w.heap.size, 0, none⟩) 1 1) [x] (w.alloc (.cells #[sV x] 9)) := by
  refine ⟨_, _, rfl, (fun q => by cases q), fun _ => ⟨_, _, rfl, Nat.le_refl _, fun i s hs => ?_⟩⟩
  match i, hs with
  | 0, hs =>
    cases hs
    have h := World.alloc_heap_new w (.cells #[sV x] 9)
    exact cell_at h rfl
theorem en_newL (w : World) (es : List Ent) : EnRd (.slice (some ⟨w.heap.size, 0, none⟩) es.length es.length) es (w.alloc (.cells (es.flatMap eCells).toArray 28)) := by
  refine ⟨_, _, rfl, fun _ => ⟨_, _, rfl, Nat.le_refl _, fun i e he => ?_⟩⟩
  have h := World.alloc_heap_new w (.cells (es.flatMap eCells).toArray 28)
  obtain ⟨f0, f1, f2, f3, f4⟩ := flat5 he
  rw [Nat.zero_add]
  exact ⟨cell_at h (by rw [List.getElem?_toArray]; exact f0), cell_at h (by rw [List.getElem?_toArray]; exact f1), cell_at h (by rw [List.getElem?_toArray]; exact f2), cell_at h (by rw [List.getElem?_toArray]; exact f3), cell_at h (by rw [List.getElem?_toArray]; exact f4)⟩
def exL : List Ent := [([97], [], [], [], 0), ([98], [], [], [], 0), ([98], [], [], [], 0)]
set_option maxRecDepth 100000 in
set_option maxHeartbeats 4000000 in
theorem iawake_any (w : World) (hE : Env w) : Calls Tryd.prog 8 #[] w fun e w' => e = .returned (.bool true) ∧ Kept w w' := by
  have HE := Lib.hid hE
  have HN := Lib.hid (norm_any exA w hE (by decide))
  rw [exA_norm] at HN
  clear hE
  go_enter Tryd.func8, Tryd.ntmps8
  go_wp2_with fail
  refine HN.out.mono ?_
  rintro e w1 ⟨rfl, k1⟩
  have K1 := Lib.hid k1
  have HK := Lib.hid (key_any ([], [], [98], [], 0) w1 (HE.out.kept k1) ⟨by decide, by decide, by decide, by decide⟩)
  rw [exB_key] at HK
  clear k1 HN
  go_wp2_with fail
  refine HK.out.mono ?_
  rintro e w2 ⟨rfl, k2⟩
  have K2 := Lib.hid (K1.out.trans k2)
  have T0 := Lib.hid (tx_new1 w2 [105, 97])
  have q2 := (Kept.refl w2).alloc (.cells #[sV [105, 97]] 9)
  have K3 := Lib.hid (K2.out.trans q2)
  have z2 : (w2.alloc (.cells #[sV [105, 97]] 9)).heap.size = w2.heap.size + 1 := by simp
  clear k2 HK K2 q2
  go_wp2_with fail
  rw [show ∀ x : World, x.alloc (.cells #[.string ⟨#[97]⟩, .string ⟨#[]⟩, .string ⟨#[]⟩, .string ⟨#[]⟩, .int .i64 0, .string ⟨#[98]⟩, .string ⟨#[]⟩, .string ⟨#[]⟩, .string ⟨#[]⟩, .int .i64 0, .string ⟨#[98]⟩, .string ⟨#[]⟩, .string ⟨#[]⟩, .string ⟨#[]⟩, .int .i64 0] 28) = x.alloc (.cells (exL.flatMap eCells).toArray 28) from fun _ => rfl]
  rw [show w2.alloc (.cells #[.string ⟨#[105, 97]⟩] 9) = w2.alloc (.cells #[sV [105, 97]] 9) from rfl]
  rw [← z2]
  generalize hb : w2.heap.size = b at *
  generalize w2.alloc (.cells #[sV [105, 97]] 9) = x at *
  clear hb z2
  have L0 := Lib.hid (en_newL x exL)
  have kl := (Kept.refl x).alloc (.cells (exL.flatMap eCells).toArray 28)
  have T1 := Lib.hid (T0.out.kept kl)
  have K4 := Lib.hid (K3.out.trans kl)
  clear T0 kl K3
  rw [show exL.length = 3 from rfl] at L0
  generalize x.alloc (.cells (exL.flatMap eCells).toArray 28) = y at *
  refine Calls.mono (R := FrP [[105, 97]] exL y) (fresh_any _ [[105, 97]] _ exL y (HE.out.kept K4.out) T1.out (by decide) (by decide) L0.out (by decide) (by decide)) ?_
  rintro e y2 ⟨v', rfl, hO, k5⟩
  obtain ⟨a', c', hv⟩ := hO.slice
  rw [show (fr [[105, 97]] exL).length = 1 from exC_fr] at hv
  subst hv
  have K5 := Lib.hid (K4.out.trans k5)
  clear hO k5 K4 T1 L0
  go_wp2
  go_ret
  exact ⟨rfl, K5.out⟩
end Go.Proofs.YtpkkpjonlogliaaDoor
