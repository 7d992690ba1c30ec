import Derived.Test.YtjlpkgipdkjfhaaGreatDoorTc
import Derived.Maps.OwnSet
import Derived.Maps.AppendAt
import Derived.OwnWalk
import Derived.Lib.SlBytesConst
import Derived.Lib.ItoaMem
set_option linter.unusedVariables false
set_option linter.unusedSimpArgs false
namespace Go.Proofs.YtjlpkgipdkjfhaaGreatDoor.Bk.Pt
open Go.ChangeShapes Go.WideShapes Go.ChangeAt Go.RowKit Go.Shelf
open Go.Maps (Keyed IsMap)
theorem lawI : Keyed Tryz.prog 3 := Go.Maps.int_keyed Tryz.underlying3
theorem zeroU (w : World) : (zeroValue 184).run Tryz.prog w = .ok (.agg #[]) w := by kernel_rfl
theorem keyI (x : Nat) (h : x ≤ 1000000000000000) : keyOf Tryz.prog 3 (iV x) = some (.int .i64 x) := Go.Maps.keyOf_int_mk Tryz.underlying3 (by unfold Lit.wf; simp only [Bool.and_eq_true, decide_eq_true_eq]; exact ⟨by show (-9223372036854775808 : Int) ≤ (x : Int); omega, by show (x : Int) ≤ 9223372036854775807; omega⟩)
def Ki (b n : Nat) (S : List Nat) (w : World) : Prop := ∃ D : DataW Unit, w.ownsMap Tryz.prog 3 unitElem b n D ∧ ∀ x : Nat, Go.Maps.has D (.int .i64 (x : Int)) = decide (x ∈ S)
theorem Ki.new (w : World) : Ki w.heap.size 0 [] (w.alloc (.map #[] 0)) := ⟨_, World.ownsMap_made _ _ _ _, fun x => by simp [Go.Maps.has]⟩
theorem Ki.lt {b n : Nat} {S : List Nat} {w : World} (h : Ki b n S w) : b < w.heap.size := by
  obtain ⟨D, h, _⟩ := h
  exact h.lt
theorem Ki.kept {b n : Nat} {S : List Nat} {w w' : World} (h : Ki b n S w) (k : Kept w w') : Ki b n S w' := by
  obtain ⟨D, ⟨es, cl, hb, h2⟩, h3⟩ := h
  exact ⟨D, ⟨es, cl, (k.block b (Array.getElem?_eq_some_iff.1 hb).1).trans hb, h2⟩, h3⟩
theorem Ki.mono {b n n' : Nat} {S : List Nat} {w : World} (h : Ki b n S w) (hn : n ≤ n') : Ki b n' S w := by
  obtain ⟨D, h, h2⟩ := h
  exact ⟨D, h.mono hn, h2⟩
theorem Ki.congr {b n : Nat} {S S' : List Nat} {w : World} (h : Ki b n S w) (hk : ∀ x, x ∈ S ↔ x ∈ S') : Ki b n S' w := by
  obtain ⟨D, h, h2⟩ := h
  exact ⟨D, h, fun x => by rw [h2 x]; exact decide_eq_decide.2 (hk x)⟩
theorem Ki.other {b n : Nat} {S : List Nat} {w : World} (h : Ki b n S w) {j : Nat} (hj : b ≠ j) (o : Nat) (v : Value) : Ki b n S (w.setCell ⟨j, o, none⟩ v) := by
  obtain ⟨D, ⟨es, cl, hb, h2⟩, h3⟩ := h
  exact ⟨D, ⟨es, cl, (Below.heap_setCell _ _ _ _ hj).trans hb, h2⟩, h3⟩
theorem ki_put {b n : Nat} {S : List Nat} {w' : World} {D : DataW Unit} {x : Nat} (hD : IsMap D) (h2 : ∀ x : Nat, Go.Maps.has D (.int .i64 (x : Int)) = decide (x ∈ S))
    (h : w'.ownsMap Tryz.prog 3 unitElem b n (D.put (.int .i64 (x : Int)) (.agg []))) : Ki b n (x :: S) w' := by
  refine ⟨_, h, fun y => ?_⟩
  by_cases e : y = x
  · subst e
    rw [Go.Maps.has_put_same hD (show WideAt.IsKeyLit (.int .i64 (y : Int)) from trivial), eq_comm, decide_eq_true_eq]
    simp
  · rw [Go.Maps.has_put_other (fun c => e (by injection c with _ c; omega)), h2 y]
    exact decide_eq_decide.2 (by simp [e])
theorem kept_map {w w1 w2 : World} {b : Nat} (k : Kept w w1) (hg : w1.grownBy w2 (some b)) (hb : w.heap.size ≤ b) : Kept w w2 := kept_row k hg (fun g e => by cases e; exact hb)
abbrev NV (b most : Nat) : Value := .agg #[.map (some b), iV most]
def Tk (S S' L : List Nat) (most : Nat) (T : List Nat) : Prop := ∀ x, x ∈ T ↔ x ∈ S' ∨ (x ∈ L ∧ x ≤ most)
theorem digs_cons {l : B} {i : Nat} {c : UInt8} (h : l[i]? = some c) (no : Nat) : digs no (l.drop i) = if isD c = true then (no * 10 + (c.toNat - 48)) :: (if no * 10 + (c.toNat - 48) = 0 then [] else digs (no * 10 + (c.toNat - 48)) (l.drop (i + 1))) else [] := by
  rw [drop_cons h, digs]
def Bx2 (k b most : Nat) (w : World) : Prop := w.heap[k]? = some (.cells #[.map (some b), iV most] 144)
theorem Bx2.c0 {k b most : Nat} {w : World} (h : Bx2 k b most w) : w.cell? ⟨k, 0, none⟩ = some (.map (some b)) := Hd.cell_at h rfl
theorem Bx2.c1 {k b most : Nat} {w : World} (h : Bx2 k b most w) : w.cell? ⟨k, 1, none⟩ = some (iV most) := Hd.cell_at h rfl
theorem Bx2.lt {k b most : Nat} {w : World} (h : Bx2 k b most w) : k < w.heap.size := (Array.getElem?_eq_some_iff.1 h).1
theorem Bx2.kept {k b most : Nat} {w w' : World} (h : Bx2 k b most w) (K : Kept w w') : Bx2 k b most w' := (K.block _ (Bx2.lt h)).trans h
theorem Bx2.new (w : World) (b most : Nat) : Bx2 w.heap.size b most (w.alloc (.cells #[.map (some b), iV most] 144)) := World.alloc_heap_new w _
theorem Bx2.grown {k b most : Nat} {w w' : World} (h : Bx2 k b most w) (hg : w.grownBy w' (some b)) (hne : k ≠ b) : Bx2 k b most w' := (hg.block k (Bx2.lt h) (fun e => hne (by injection e))).trans h
theorem Ki.nemap {b n : Nat} {S : List Nat} {w : World} (h : Ki b n S w) {k most : Nat} (h2 : Bx2 k b most w) : k ≠ b := by
  rintro rfl
  obtain ⟨D, ⟨es, cl, hb, _⟩, _⟩ := h
  unfold Bx2 at h2
  rw [h2] at hb
  cases hb
set_option maxRecDepth 100000 in
set_option maxHeartbeats 4000000 in
theorem take_any (b most n : Nat) (S T : List Nat) (v : Value) (l : B) (w0 w : World) (hR : BRd v l w0) (hK : Kept w0 w) (hb : w0.heap.size ≤ b) (hM : Ki b n S w) (hn : n + (digs 0 l).length ≤ 100000000000) (hm : most ≤ 1000000000000) (hll : l.length ≤ 4000000000) (hT : Tk S S (digs 0 l) most T) :
    Calls Tryz.prog 200 #[NV b most, v] w fun e w' => e = .returned (.tuple #[]) ∧ Kept w0 w' ∧ Ki b (n + (digs 0 l).length) T w' ∧ w.grownBy w' (some b) := by
  obtain ⟨va, vc, hvv⟩ := hR.slice
  subst hvv
  have HR := Lib.hid hR
  have K0 := Lib.hid (hK.trans ((Kept.refl w).alloc (.cells #[.map (some b), iV most] 144)))
  have M0 := Lib.hid (hM.kept ((Kept.refl w).alloc (.cells #[.map (some b), iV most] 144)))
  have B0 := Lib.hid (Bx2.new w b most)
  have G0 := Lib.hid (((Kept.refl w).alloc (.cells #[.map (some b), iV most] 144)).grownBy (some b))
  have HT := Lib.hid hT
  have HN := Lib.hid hn
  clear hR hK hM hT hn
  go_enter Tryz.func200, Tryz.ntmps200
  go_upto_region 1 with (fail)
  generalize hkb : w.heap.size = kb at *
  generalize w.alloc (.cells #[.map (some b), iV most] 144) = y0 at *
  go_wp2_with fail
  go_loopw [4, 6, 9] (fun vn _ vi wr => ∃ (i no n' : Nat) (S' : List Nat), i ≤ l.length ∧ no ≤ most ∧ vi = .int .i64 i ∧ vn = .int .i64 no ∧ Hid (n' + (digs no (l.drop i)).length ≤ n + (digs 0 l).length) ∧ Hid (Tk S S' (digs no (l.drop i)) most T) ∧ Hid (Kept w0 wr) ∧ Hid (Bx2 kb b most wr) ∧ Hid (Ki b n' S' wr) ∧ Hid (w.grownBy wr (some b))) (fun _ _ vi _ => l.length - (intOf vi).toNat)
  case atStart => exact ⟨0, 0, n, S, Nat.zero_le _, Nat.zero_le _, rfl, rfl, Lib.hid (Nat.le_refl _), HT, K0, B0, M0, G0⟩
  case round =>
    obtain ⟨i, no, n', S', hi, hno, rfl, rfl, hL, hT, hK, hB, hM, hG⟩ := hrel
    by_cases hlt : i < l.length
    · have hltI : (i : Int) < l.length := by omega
      obtain ⟨c, hc⟩ : ∃ c, l[i]? = some c := ⟨_, List.getElem?_eq_getElem hlt⟩
      obtain ⟨g, o, cc, hv, hcp, c0⟩ := (HR.out.kept hK.out).at hc
      cases hv
      have HS := Lib.hid (digs_cons hc no)
      have HD := Lib.hid (isDigit_any c)
      clear hc
      cases hd : isD c with
      | false =>
        have HE := Lib.hid (show digs no (l.drop i) = [] by rw [HS.out, if_neg (by rw [hd]; decide)])
        clear HS
        go_wp2_with fail
        refine (HD.out _).mono ?_
        rintro e x ⟨rfl, rfl⟩
        rw [hd]
        clear hd
        go_wp2
        refine bodyPost_ret (results_none rfl _ _ _) rfl ?_
        refine ⟨rfl, hK.out, (hM.out.mono (by have := hL.out; omega)).congr (fun z => ?_), hG.out⟩
        have := hT.out z
        rw [HE.out] at this
        simpa using this.symm
      | true =>
        obtain ⟨e1, e2, e3⟩ := dig_of hd
        have HS := Lib.hid (HS.out.trans (if_pos hd))
        have HD := Lib.hid (show ∀ w : World, Calls Tryz.prog 197 #[.int .u8 c.toNat] w fun e w' => e = .returned (.bool true) ∧ w' = w from fun w => by rw [← hd]; exact HD.out w)
        have e3I : (48 : Int) ≤ c.toNat := by omega
        have e4I : (c.toNat : Int) ≤ 57 := by omega
        have hs1 : (c.toNat : Int) - 48 = ((c.toNat - 48 : Nat) : Int) := by omega
        have hs2 : IntKind.u8.wrap ((c.toNat : Int) - 48) = ((c.toNat - 48 : Nat) : Int) := by rw [hs1, IntKind.wrap_u8]; omega
        clear hd e1 e3
        generalize c.toNat - 48 = d at *
        have hm1 : (no : Int) * 10 = ((no * 10 : Nat) : Int) := by omega
        have hm2 : IntKind.i64.wrap ((no : Int) * 10) = ((no * 10 : Nat) : Int) := by rw [IntKind.wrap_i64]; omega
        have ha1 : ((no * 10 : Nat) : Int) + (d : Int) = ((no * 10 + d : Nat) : Int) := by omega
        have ha2 : IntKind.i64.wrap (((no * 10 : Nat) : Int) + (d : Int)) = ((no * 10 + d : Nat) : Int) := by rw [IntKind.wrap_i64]; omega
        have hge : ∀ x ∈ digs no (l.drop i), no * 10 + d ≤ x := by
          intro x hx
          rw [HS.out] at hx
          rcases List.mem_cons.1 hx with rfl | hx
          · exact Nat.le_refl _
          · split at hx
            · cases hx
            · exact digs_ge _ _ _ hx
        have hmb : no * 10 + d ≤ 100000000000000 := by omega
        have HG := Lib.hid hge
        clear hge
        generalize hmm : no * 10 = n10 at *
        clear hmm
        have b0 := Bx2.c0 hB.out
        have b1 := Bx2.c1 hB.out
        generalize hme : n10 + d = m at *
        clear hme
        by_cases hgt : most < m
        · have hgI : (most : Int) < m := by omega
          have HX := Lib.hid (show ∀ x, ¬ (x ∈ digs no (l.drop i) ∧ x ≤ most) from fun x h => by have := HG.out x h.1; omega)
          clear HS
          go_wp2_with fail
          refine (HD.out _).mono ?_
          rintro e x ⟨rfl, rfl⟩
          go_wp2
          refine bodyPost_ret (results_none rfl _ _ _) rfl ?_
          refine ⟨rfl, hK.out, (hM.out.mono (by have := hL.out; omega)).congr (fun z => ?_), hG.out⟩
          have := hT.out z
          exact (this.trans ⟨fun h => h.elim id (fun h => absurd h (HX.out z)), Or.inl⟩).symm
        · have hgI : ¬ (most : Int) < m := by omega
          obtain ⟨D, hown, hhas⟩ := hM.out
          have HM := Lib.hid hown.isMap
          have HH := Lib.hid hhas
          have hkey := keyI m (by omega)
          have hkb := hM.out.nemap hB.out
          have hlen : (digs no (l.drop i)).length = 1 + (if m = 0 then [] else digs m (l.drop (i + 1))).length := by rw [HS.out, List.length_cons]; omega
          have hn' : n' < maxLen := by have := hL.out; have := HN.out; unfold maxLen; omega
          clear hhas hM
          go_wp2_with fail
          refine (HD.out _).mono ?_
          rintro e x ⟨rfl, rfl⟩
          go_upto_region 9 with (at_mapUpdate; go_loud (refine wpList_mapUpdate_own _ rfl _ _ _ 142 rfl 3 184 lawI Tryz.underlying142 (unitElem (H := Unit)) b n' _ rfl hown hn' _ _ _ rfl rfl hkey _ [] unitElem_mk ?_; intro w1 hown1 hgrow1))
          have M1 := Lib.hid (ki_put HM.out HH.out hown1)
          have K1 := Lib.hid (kept_map hK.out hgrow1 hb)
          have B1 := Lib.hid (Bx2.grown hB.out hgrow1 hkb)
          have G1 := Lib.hid (hG.out.trans hgrow1)
          clear hown hown1 hgrow1 b0 b1 c0 HM HH hB hG
          by_cases hm0 : m = 0
          · have HE := Lib.hid (HS.out.trans (by rw [if_pos hm0]))
            subst hm0
            clear HS hlen
            go_wp2
            refine bodyPost_ret (results_none rfl _ _ _) rfl ?_
            refine ⟨rfl, K1.out, (M1.out.mono (by have := hL.out; rw [HE.out] at this; simp at this; omega)).congr (fun z => ?_), G1.out⟩
            have := hT.out z
            rw [HE.out] at this
            rw [this, List.mem_cons]
            simp only [List.mem_singleton]
            exact ⟨fun h => h.elim (fun h => Or.inr ⟨h, by omega⟩) Or.inl, fun h => h.elim Or.inr (fun h => Or.inl h.1)⟩
          · have hmI : ¬ (m : Int) = 0 := by omega
            have HE := Lib.hid (HS.out.trans (by rw [if_neg hm0]))
            have HL := Lib.hid (show n' + 1 + (digs m (l.drop (i + 1))).length ≤ n + (digs 0 l).length by have := hL.out; rw [if_neg hm0] at hlen; omega)
            have HT2 := Lib.hid (show Tk S (m :: S') (digs m (l.drop (i + 1))) most T from fun z => by
              have := hT.out z
              rw [HE.out, List.mem_cons] at this
              rw [this, List.mem_cons]
              exact ⟨fun h => by rcases h with h | ⟨h | h, h2⟩; exact Or.inl (Or.inr h); exact Or.inl (Or.inl h); exact Or.inr ⟨h, h2⟩, fun h => by rcases h with (h | h) | h; exact Or.inr ⟨Or.inl h, by omega⟩; exact Or.inl h; exact Or.inr ⟨Or.inr h.1, h.2⟩⟩)
            clear HS hlen hT hL HE hm0
            go_wp2
            go_roundw
            case rel => exact ⟨i + 1, m, n' + 1, m :: S', hlt, by omega, by go_num, by first | rfl | go_num, HL, HT2, K1, B1, M1, G1⟩
            case measure => simp [intOf]; omega
    · have hltI : ¬ (i : Int) < l.length := by omega
      have HE := Lib.hid (show digs no (l.drop i) = [] by rw [List.drop_eq_nil_of_le (by omega)]; rfl)
      go_wp2
      go_end0
      refine ⟨rfl, hK.out, (hM.out.mono (by have := hL.out; omega)).congr (fun z => ?_), hG.out⟩
      have := hT.out z
      rw [HE.out] at this
      simpa using this.symm
theorem nums_nil_of {l : B} (h : ¬ 0 ≤ Lib.index l [61, 95]) : nums l = [] := nums_none l (by have := Lib.index_ge l [61, 95]; omega)
def lenV : Value → Nat
  | .slice _ n _ => n
  | _ => 0
set_option maxRecDepth 100000 in
set_option maxHeartbeats 4000000 in
theorem takeAll_any (b most n : Nat) (S T : List Nat) (v : Value) (l : B) (w0 w : World) (hR : BRd v l w0) (hK : Kept w0 w) (hE : Env w0) (hb : w0.heap.size ≤ b) (hM : Ki b n S w) (hn : n + (nums l).length ≤ 100000000000) (hm : most ≤ 1000000000000) (hl : l.length ≤ 4000000000) (hT : Tk S S (nums l) most T) :
    Calls Tryz.prog 140 #[NV b most, v] w fun e w' => e = .returned (.tuple #[]) ∧ Kept w0 w' ∧ Ki b (n + (nums l).length) T w' ∧ w.grownBy w' (some b) := by
  have kc := fun (w : World) (C : Array Value) (n c : Nat) => Lib.run_convert_bytes_const (P := Tryz.prog) w 25 5 C n c Tryz.underlying25 Tryz.underlying5
  obtain ⟨va, vc, hvv⟩ := hR.slice
  have HR := Lib.hid hR
  have K0 := Lib.hid (hK.trans ((Kept.refl w).alloc (.cells #[.map (some b), iV most] 144)))
  have M0 := Lib.hid (hM.kept ((Kept.refl w).alloc (.cells #[.map (some b), iV most] 144)))
  have B0 := Lib.hid (Bx2.new w b most)
  have G0 := Lib.hid (((Kept.refl w).alloc (.cells #[.map (some b), iV most] 144)).grownBy (some b))
  have HT := Lib.hid hT
  have HN := Lib.hid hn
  have HE := Lib.hid hE
  clear hR hK hM hT hn hE
  go_enter Tryz.func140, Tryz.ntmps140
  go_upto_region 1 with (fail)
  generalize hkb : w.heap.size = kb at *
  generalize w.alloc (.cells #[.map (some b), iV most] 144) = y0 at *
  go_wp2_with fail
  go_loopw [1, 4, 5, 6, 7] (fun vb _ _ _ _ wr => ∃ (r : B) (n' : Nat) (S' : List Nat), r.length ≤ l.length ∧ lenV vb = r.length ∧ Hid (BRd vb r w0) ∧ Hid (n' + (nums r).length ≤ n + (nums l).length) ∧ Hid (Tk S S' (nums r) most T) ∧ Hid (Kept w0 wr) ∧ Hid (Bx2 kb b most wr) ∧ Hid (Ki b n' S' wr) ∧ Hid (w.grownBy wr (some b))) (fun vb _ _ _ _ _ => lenV vb)
  case atStart => exact ⟨l, n, S, Nat.le_refl _, by rw [hvv]; rfl, HR, Lib.hid (Nat.le_refl _), HT, K0, B0, M0, G0⟩
  case round =>
    obtain ⟨r, n', S', hrl, hlen, hR, hL, hT, hK, hB, hM, hG⟩ := hrel
    obtain ⟨ra, rc, hrv⟩ := hR.out.slice
    subst hrv
    have ka := (Kept.refl wr).alloc (.cells #[.int .u8 61, .int .u8 95] 5 (2, 3))
    have KA := Lib.hid (hK.out.trans ka)
    have RA := Lib.hid (brd_new wr [61, 95] 5 #[.int .u8 61, .int .u8 95] rfl 2 (Nat.le_refl 2) (2, 3))
    have BA := Lib.hid (Bx2.kept hB.out ka)
    have MA := Lib.hid (hM.out.kept ka)
    have GA := Lib.hid (hG.out.trans (ka.grownBy (some b)))
    have HC := Lib.hid (cutB_any _ _ r [61, 95] _ (hR.out.kept KA.out) RA.out (HE.out.kept KA.out) (by omega) (by decide))
    have HNC := Lib.hid (fun (h : 0 ≤ Lib.index r [61, 95]) => nums_cut r (Lib.index r [61, 95]).toNat (by omega))
    have HNN := Lib.hid (fun h => nums_nil_of (l := r) h)
    have hroom := Lib.index_room r [61, 95]
    clear ka hK hB hM hG
    rw [show ([61, 95] : B).length = 2 from rfl] at hroom
    generalize Lib.index r [61, 95] = ix at *
    go_wp2_with fail
    refine HC.out.mono ?_
    rintro e x ⟨xv, yv, rfl, hy, ⟨_, _, _, rfl⟩, ⟨ya, yn, yc, rfl⟩, kx⟩
    have KX := Lib.hid (KA.out.trans kx)
    have BX := Lib.hid (Bx2.kept BA.out kx)
    have MX := Lib.hid (MA.out.kept kx)
    have GX := Lib.hid (GA.out.trans (kx.grownBy (some b)))
    have HY := Lib.hid hy
    clear hy kx KA BA MA GA HC RA kc
    by_cases hi : 0 ≤ ix
    · have HQ := Lib.hid (HNC.out hi)
      have YR := Lib.hid (HY.out ix.toNat (by omega) w0 hR.out)
      rw [show ([61, 95] : B).length = 2 from rfl] at YR
      have hyl := (BRd.parts YR.out).1
      have hd := hroom hi
      rw [decide_eq_true hi]
      have b0 := Bx2.c0 BX.out
      have b1 := Bx2.c1 BX.out
      have hql : (r.drop (ix.toNat + 2)).length + 2 ≤ r.length := by simp; omega
      clear HNC HNN hroom hd HY hR
      generalize r.drop (ix.toNat + 2) = q at *
      subst hyl
      have HLn : n' + (digs 0 q).length ≤ 100000000000 := by have h1 := hL.out; have h2 := HN.out; rw [HQ.out, List.length_append] at h1; omega
      have HTK := Lib.hid (take_any b most n' S' (((digs 0 q).filter (fun x => decide (x ≤ most))) ++ S') _ q w0 x YR.out KX.out hb MX.out HLn hm (by omega) (fun z => by rw [List.mem_append, List.mem_filter, decide_eq_true_eq]; exact or_comm))
      go_wp2_with fail
      refine HTK.out.mono ?_
      rintro e z ⟨rfl, hk, hM2, hg⟩
      have BZ := Lib.hid (Bx2.grown BX.out hg (MX.out.nemap BX.out))
      have GZ := Lib.hid (GX.out.trans hg)
      have KZ := Lib.hid hk
      have MZ := Lib.hid hM2
      have HL2 := Lib.hid (show n' + (digs 0 q).length + (nums q).length ≤ n + (nums l).length by have := hL.out; rw [HQ.out, List.length_append] at this; omega)
      have HT2 := Lib.hid (show Tk S (((digs 0 q).filter (fun x => decide (x ≤ most))) ++ S') (nums q) most T from fun z => by
        have := hT.out z
        rw [this, HQ.out, List.mem_append, List.mem_append, List.mem_filter, decide_eq_true_eq]
        constructor
        · rintro (h | ⟨h | h, h2⟩)
          · exact Or.inl (Or.inr h)
          · exact Or.inl (Or.inl ⟨h, h2⟩)
          · exact Or.inr ⟨h, h2⟩
        · rintro ((⟨h, h2⟩ | h) | ⟨h, h2⟩)
          · exact Or.inr ⟨Or.inl h, h2⟩
          · exact Or.inl h
          · exact Or.inr ⟨Or.inr h, h2⟩)
      clear hk hM2 hg HTK b0 b1 HLn
      go_wp2
      go_roundw
      case rel => exact ⟨q, _, _, by omega, rfl, YR, HL2, HT2, KZ, BZ, MZ, GZ⟩
      case measure => simp only [lenV] at *; omega
    · have HQ := Lib.hid (HNN.out (by omega))
      rw [decide_eq_false hi]
      clear HNC HNN hroom HY
      go_wp2
      refine bodyPost_ret (results_none rfl _ _ _) rfl ?_
      refine ⟨rfl, KX.out, (MX.out.mono (by have := hL.out; omega)).congr (fun z => ?_), GX.out⟩
      have := hT.out z
      rw [HQ.out] at this
      simpa using this.symm
set_option maxRecDepth 100000 in
set_option maxHeartbeats 4000000 in
theorem free_any (b most n f : Nat) (S : List Nat) (w : World) (hM : Ki b n S w) (hf : f ≤ 1000000000000) (h1 : f ∉ S) (h2 : ∀ k, k < f → k ∈ S) :
    Calls Tryz.prog 141 #[NV b most] w fun e w' => e = .returned (iV f) ∧ Kept w w' := by
  have K0 := Lib.hid ((Kept.refl w).alloc (.cells #[.map (some b), iV most] 144))
  have B0 := Lib.hid (Bx2.new w b most)
  have HM := Lib.hid hM
  have H1 := Lib.hid h1
  have H2 := Lib.hid h2
  clear hM h1 h2
  go_enter Tryz.func141, Tryz.ntmps141
  go_upto_region 1 with (fail)
  generalize hkb : w.heap.size = kb at *
  generalize w.alloc (.cells #[.map (some b), iV most] 144) = y0 at *
  go_wp2_with fail
  go_loopw [3] (fun vn wr => ∃ (no : Nat), no ≤ f ∧ vn = .int .i64 no ∧ Hid (Kept w wr) ∧ Hid (Bx2 kb b most wr)) (fun vn _ => f - (intOf vn).toNat)
  case atStart => exact ⟨0, Nat.zero_le _, rfl, K0, B0⟩
  case round =>
    obtain ⟨no, hno, rfl, hK, hB⟩ := hrel
    obtain ⟨D, hown, hhas⟩ := HM.out.kept hK.out
    have hx := hhas no
    have hkey := keyI no (by omega)
    have b0 := Bx2.c0 hB.out
    have b1 := Bx2.c1 hB.out
    clear hhas
    have ka := fun wr : World => (Kept.refl wr).alloc (.cells #[] 184)
    by_cases hlt : no < f
    · rw [decide_eq_true (H2.out no hlt)] at hx
      go_wp2_with (first
        | (at_lookup; refine wpList_lookup_own_unit _ rfl _ _ 142 rfl 3 184 lawI Tryz.underlying142 (zeroU _) b n _ rfl hown _ _ rfl hkey ?_; rw [hx]))
      go_roundw
      case rel => exact ⟨no + 1, hlt, by go_num, Lib.hid (hK.out.trans (ka _)), Lib.hid (Bx2.kept hB.out (ka _))⟩
      case measure => simp [intOf]; omega
    · obtain rfl : no = f := by omega
      rw [decide_eq_false H1.out] at hx
      go_wp2_with (first
        | (at_lookup; refine wpList_lookup_own_unit _ rfl _ _ 142 rfl 3 184 lawI Tryz.underlying142 (zeroU _) b n _ rfl hown _ _ rfl hkey ?_; rw [hx]))
      go_ret
      exact ⟨rfl, hK.out.trans (ka _)⟩
end Go.Proofs.YtjlpkgipdkjfhaaGreatDoor.Bk.Pt
namespace Go.Proofs.YtjlpkgipdkjfhaaGreatDoor.Bk.Pt
open Go.ChangeShapes Go.WideShapes Go.ChangeAt Go.RowKit Go.Shelf
def Tab (w : World) : Prop := Lib.TabIs Tryz.prog w "internal/strconv.uint64pow10" .u64 Lib.pow10Tab
theorem itoa_any (n : Nat) (w : World) (h1 : n ≤ 9223372036854775807) (htab : n < 100 ∨ Tab w) :
    Calls Tryz.prog 41 #[iV n] w fun e w' => e = .returned (sV (Lib.decDigits n)) ∧ Kept w w' := by
  rcases htab with h | h
  · refine (Tryz.strconv_Itoa_small n h w).mono ?_
    rintro e w1 ⟨rfl, rfl⟩
    exact ⟨rfl, Kept.refl _⟩
  · refine (Tryz.strconv_Itoa n (by omega) (by omega) w h).mono ?_
    rintro e w1 ⟨rfl, m, os, rfl⟩
    rw [Lib.itoa_nonneg]
    exact ⟨rfl, ((Kept.refl w).drewN m).grow os⟩
theorem dec_len : ∀ (k n : Nat), n ≤ k → (Lib.decDigits n).length ≤ n + 1
  | 0, n, h => by
    obtain rfl : n = 0 := by omega
    rw [Lib.decDigits_one (by omega)]; simp
  | k + 1, n, h => by
    by_cases h10 : n < 10
    · rw [Lib.decDigits_one h10]; simp
    · have := dec_len k (n / 10) (by omega)
      rw [Lib.decDigits, dif_neg h10]; simp; omega
theorem sum_take {l : List B} {i : Nat} {b : B} (h : l[i]? = some b) : sum (l.take i) + b.length ≤ sum l ∧ sum (l.take (i + 1)) = sum (l.take i) + b.length := by
  induction l generalizing i with
  | nil => simp at h
  | cons x l ih =>
    cases i with
    | zero =>
      simp at h; subst h
      simp [sum]
    | succ i =>
      have := ih (by simpa using h)
      simp only [List.take_succ_cons, sum]
      omega
theorem all_drop {l : List B} {i : Nat} {b : B} (h : l[i]? = some b) : all (l.drop i) = nums b ++ all (l.drop (i + 1)) := by
  obtain ⟨hi, rfl⟩ := List.getElem?_eq_some_iff.1 h
  rw [List.drop_eq_getElem_cons hi]
  rfl
theorem run_mk0 (W : World) : (Instr.makeMap 142 none).run Tryz.prog W = .ok (.map (some W.heap.size)) (W.alloc (.map #[] 0)) := by
  simp [Instr.makeMap, run_underlying Tryz.underlying142, Result.andThen]
set_option maxRecDepth 100000 in
set_option maxHeartbeats 4000000 in
theorem boundary_any (v : Value) (l : List B) (w : World) (hR : LRd v l w) (hE : Env w) (hT : free (all l) < 100 ∨ Tab w) (hs : sum l ≤ 4000000000) (hl : l.length ≤ 1000000000) :
    Calls Tryz.prog 94 #[v] w fun e w' => e = .returned (sV (bdy l)) ∧ Kept w w' := by
  obtain ⟨va, vc, hvv⟩ := hR.slice
  subst hvv
  have HR := Lib.hid hR
  have HE := Lib.hid hE
  have HT := Lib.hid hT
  clear hR hE hT
  have hmm := fun W => run_mk0 W
  go_enter Tryz.func94, Tryz.ntmps94
  go_wp2_with fail
  go_loopw [3, 5, 11] (fun vs _ vi wr => ∃ i : Nat, i ≤ l.length ∧ vi = .int .i64 i ∧ vs = .int .i64 (sum (l.take i)) ∧ w = wr) (fun _ _ vi _ => l.length - (intOf vi).toNat)
  case atStart => exact ⟨0, Nat.zero_le _, rfl, rfl, rfl⟩
  case round =>
    obtain ⟨i, hi, rfl, rfl, rfl⟩ := hrel
    by_cases hlt : i < l.length
    · have hltI : (i : Int) < l.length := by omega
      obtain ⟨b, hb⟩ : ∃ b, l[i]? = some b := ⟨_, List.getElem?_eq_getElem hlt⟩
      obtain ⟨g, o, c, x, hv, hc, c0, hx⟩ := HR.out.at hb
      cases hv
      obtain ⟨s1, s2⟩ := sum_take hb
      have HS := Lib.hid s2
      obtain ⟨xa, xc, rfl⟩ := hx.slice
      clear hb s2 hx
      generalize sum (l.take i) = s at *
      go_wp2
      go_roundw
      case rel => exact ⟨i + 1, hlt, by go_num, by rw [HS.out]; go_num, by first | rfl | exact trivial⟩
      case measure => simp [intOf]; omega
    · obtain rfl : i = l.length := by omega
      rw [List.take_length]
      have hltI : ¬ (l.length : Int) < l.length := by omega
      have hal := all_len l
      have HAL := Lib.hid hal
      generalize hsu : sum l = most at *
      have K2 := Lib.hid (((Kept.refl w).alloc (.map #[] 0)).alloc (.cells #[.map (some w.heap.size), iV most] 144))
      have M2 := Lib.hid ((Ki.new w).kept ((Kept.refl _).alloc (.cells #[.map (some w.heap.size), iV most] 144)))
      have B2 := Lib.hid (show Bx2 (w.heap.size + 1) w.heap.size most ((w.alloc (.map #[] 0)).alloc (.cells #[.map (some w.heap.size), iV most] 144)) by
        have := Bx2.new (w.alloc (.map #[] 0)) w.heap.size most
        rwa [show (w.alloc (.map #[] 0)).heap.size = w.heap.size + 1 by simp] at this)
      have HSU := Lib.hid hsu
      clear hsu hal
      go_upto_region 8 with (fail)
      generalize (w.alloc (.map #[] 0)).alloc (.cells #[.map (some w.heap.size), iV most] 144) = y0 at *
      generalize hmb : w.heap.size = mb at *
      have HMB := Lib.hid hmb
      clear hmb
      go_wp2_with fail
      go_loopw [8, 25] (fun _ vi y => ∃ (i n' : Nat) (S' : List Nat), i ≤ l.length ∧ vi = .int .i64 i ∧ Hid (n' + (all (l.drop i)).length ≤ (all l).length) ∧ Hid (Tk [] S' (all (l.drop i)) most ((all l).filter (fun x => decide (x ≤ most)))) ∧ Hid (Kept w y) ∧ Hid (Bx2 (mb + 1) mb most y) ∧ Hid (Ki mb n' S' y)) (fun _ vi _ => l.length - (intOf vi).toNat)
      case atStart => exact ⟨0, 0, [], Nat.zero_le _, rfl, Lib.hid (by rw [List.drop_zero]; omega), Lib.hid (fun z => by rw [List.drop_zero, List.mem_filter, decide_eq_true_eq]; simp), K2, B2, M2⟩
      case round =>
        obtain ⟨i, n', S', hi, rfl, hL, hT, hK, hB, hM⟩ := hrel
        have b0 := Bx2.c0 hB.out
        have b1 := Bx2.c1 hB.out
        by_cases hlt : i < l.length
        · have hltI : (i : Int) < l.length := by omega
          obtain ⟨b, hb⟩ : ∃ b, l[i]? = some b := ⟨_, List.getElem?_eq_getElem hlt⟩
          obtain ⟨g, o, c, x, hv, hc, c0, hx⟩ := HR.out.at hb
          cases hv
          have c1 := hK.out.yes c0
          obtain ⟨s1, s2⟩ := sum_take hb
          have hbl : b.length ≤ 4000000000 := by have := HSU.out; omega
          have HA := Lib.hid (all_drop hb)
          have HX := Lib.hid hx
          obtain ⟨xa, xc, rfl⟩ := hx.slice
          have hnb : n' + (nums b).length ≤ 100000000000 := by have h1 := hL.out; rw [HA.out, List.length_append] at h1; have h2 := HAL.out; omega
          have HC := Lib.hid (takeAll_any mb most n' S' (((nums b).filter (fun x => decide (x ≤ most))) ++ S') _ b w wr HX.out hK.out HE.out (by have := HMB.out; omega) hM.out hnb (by omega) hbl (fun z => by rw [List.mem_append, List.mem_filter, decide_eq_true_eq]; exact or_comm))
          clear hb hx s1 s2 c0
          go_wp2_with fail
          refine HC.out.mono ?_
          rintro e z ⟨rfl, hk, hm, hg⟩
          have K3 := Lib.hid hk
          have M3 := Lib.hid hm
          have B3 := Lib.hid (Bx2.grown hB.out hg (hM.out.nemap hB.out))
          have HL2 := Lib.hid (show n' + (nums b).length + (all (l.drop (i + 1))).length ≤ (all l).length by have h1 := hL.out; rw [HA.out, List.length_append] at h1; omega)
          have HT2 := Lib.hid (show Tk [] (((nums b).filter (fun x => decide (x ≤ most))) ++ S') (all (l.drop (i + 1))) most ((all l).filter (fun x => decide (x ≤ most))) from fun z => by
            have := hT.out z
            rw [this, HA.out, List.mem_append, List.mem_append, List.mem_filter, decide_eq_true_eq]
            constructor
            · rintro (h | ⟨h | h, h2⟩)
              · exact Or.inl (Or.inr h)
              · exact Or.inl (Or.inl ⟨h, h2⟩)
              · exact Or.inr ⟨h, h2⟩
            · rintro ((⟨h, h2⟩ | h) | ⟨h, h2⟩)
              · exact Or.inr ⟨Or.inl h, h2⟩
              · exact Or.inl h
              · exact Or.inr ⟨Or.inr h, h2⟩)
          clear hk hm hg HC b0 b1 c1 hnb hK hM hB
          go_wp2
          go_roundw
          case rel => exact ⟨i + 1, _, _, hlt, by go_num, HL2, HT2, K3, B3, M3⟩
          case measure => simp [intOf]; omega
        · obtain rfl : i = l.length := by omega
          have HZ := Lib.hid (show ∀ z, z ∈ S' ↔ z ∈ all l ∧ z ≤ most from fun z => by
            have := hT.out z
            rw [List.drop_length, List.mem_filter, decide_eq_true_eq] at this
            rw [this]
            simp [all])
          have hfl := free_le (all l)
          have hF := Lib.hid (free_any mb most n' (free (all l)) S' wr hM.out (by have := HAL.out; omega) (fun h => free_not (all l) ((HZ.out _).1 h).1) (fun k hk => (HZ.out k).2 ⟨free_in (all l) k hk, by have := HAL.out; omega⟩))
          have HI := Lib.hid (fun (z : World) (k : Kept wr z) => itoa_any (free (all l)) z (by have := HAL.out; omega) (HT.out.imp id (fun h => (hK.out.trans k).tab h)))
          have hdl := dec_len _ (free (all l)) (Nat.le_refl _)
          have HBD := Lib.hid (show bdy l = [61, 95] ++ Lib.decDigits (free (all l)) from rfl)
          have hfm : free (all l) ≤ most := by have := HAL.out; omega
          clear hL hT hM HT
          generalize free (all l) = f at *
          go_wp2_with fail
          refine hF.out.mono ?_
          rintro e z ⟨rfl, k1⟩
          have K3 := Lib.hid (hK.out.trans k1)
          have HI2 := Lib.hid (HI.out z k1)
          clear hF HI k1
          go_wp2_with fail
          refine HI2.out.mono ?_
          rintro e z2 ⟨rfl, k2⟩
          have K4 := Lib.hid (K3.out.trans k2)
          clear HI2 k2
          have hss : (ByteArray.mk (Lib.decDigits f).toArray).size = (Lib.decDigits f).length := List.size_toArray
          generalize Lib.decDigits f = df at *
          go_wp2
          go_ret
          refine ⟨?_, K4.out⟩
          rw [HBD.out]
          show Ending.returned (Value.string (⟨[61, 95].toArray⟩ ++ ⟨df.toArray⟩)) = _
          rw [str_app]
end Go.Proofs.YtjlpkgipdkjfhaaGreatDoor.Bk.Pt
