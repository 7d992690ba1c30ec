import Derived.Test.YtjlpkgipdkjfhaaGreatDoorEb
import Derived.RangeFuncNested
import Derived.RangeFuncBound
import Derived.RangeFuncCalls
import Derived.RangeFuncLeaves
import Derived.RangeFuncOne
import Derived.Shelf.Abstract
import Derived.Shelf.RegionOpen
import Derived.OwnWalkIn
import Derived.TacticsInMore
import Derived.LoopNIn
import Derived.LoopIn
import Derived.RangeFuncWrites
import Derived.Test.YtjlpkgipdkjfhaaGreatDoorRows
import Derived.Handed
import Derived.OpenShut
import Derived.ChangeSame
import Derived.Stop.LaidErr
import Derived.Lib.LaidU8T
import Derived.PinnedBridge
import Derived.Shelf.Vars
set_option linter.unusedVariables false
set_option linter.unusedSimpArgs false
namespace Go.Proofs.YtjlpkgipdkjfhaaGreatDoor
open Go.ChangeShapes Go.WideShapes Go.ChangeAt Go.RowKit Go.Shelf
open En
attribute [local go_sem] Oper.semAt_some
set_option maxRecDepth 100000 in
theorem isBlank_any (r : Nat) (w : World) : Calls Tryz.prog 218 #[.int .i32 r] w fun e w' => e = .returned (.bool (blankR r)) ∧ w = w' := by
  by_cases h : r < 128
  · obtain ⟨c, rfl⟩ : ∃ c : UInt8, r = c.toNat := ⟨UInt8.ofNat r, by simp; omega⟩
    have hcv : ∀ W : World, (convert 21 5 (.int .i32 c.toNat)).run Tryz.prog W = .ok (.int .u8 c.toNat) W := fun W => by
      rw [run_convert_int W _ _ .i32 _ (by rw [Tryz.underlying21]; rfl) Tryz.underlying5, show Tryz.prog.intKind 5 = .u8 by kernel_rfl, IntKind.wrap_u8, show (c.toNat : Int) % 256 = c.toNat by omega]
    have c1 : (c.toNat : Int) < 128 := by omega
    clear h
    go_enter Tryz.func218, Tryz.ntmps218
    go_wp2_with (go_at_call 254; refine (space_any c _).mono ?_; rintro e w1 ⟨rfl, rfl⟩)
    go_ret
    exact ⟨rfl, rfl⟩
  · have hb := Lib.hid (blank_high (show 128 ≤ r by omega))
    have c1 : ¬ (r : Int) < 128 := by omega
    clear h
    go_enter Tryz.func218, Tryz.ntmps218
    go_wp2
    go_ret
    exact ⟨by rw [hb.out]; rfl, rfl⟩
theorem Stp.up {l : List UInt8} {p r k : Nat} (h : Stp (l.drop p) 0 r k) (hp : p ≤ l.length) : Stp l p r k := by
  obtain ⟨t, h1, h2, h3⟩ := h.run
  refine ⟨⟨t, ?_, h2, h3⟩, h.pos, ?_, h.big⟩
  · rw [List.drop_drop, List.drop_drop] at h1
    simpa using h1
  · have := h.le
    rw [List.length_drop] at this
    omega
abbrev blankV : Value := .func (.func 218) #[] #[]
def Bs (n : Nat) (l : List UInt8) (w : World) : Prop := w.heap[n]? = some (.cells #[.string ⟨l.toArray⟩] 9)
def Bl (f : Nat) (w : World) : Prop := w.heap[f]? = some (.cells #[blankV] 201)
theorem Bs.lt {n : Nat} {l : List UInt8} {w : World} (h : Bs n l w) : n < w.heap.size := (Array.getElem?_eq_some_iff.1 h).1
theorem Bl.lt {n : Nat} {w : World} (h : Bl n w) : n < w.heap.size := (Array.getElem?_eq_some_iff.1 h).1
theorem Bs.c {n : Nat} {l : List UInt8} {w : World} (h : Bs n l w) : w.cell? ⟨n, 0, none⟩ = some (.string ⟨l.toArray⟩) := by unfold Bs at h; simp [World.cell?, h]
theorem Bl.c {n : Nat} {w : World} (h : Bl n w) : w.cell? ⟨n, 0, none⟩ = some blankV := by unfold Bl at h; simp [World.cell?, h]
def FldP (l : List UInt8) (w : World) (e : Ending) (w' : World) : Prop :=
  ∃ n f : Nat, e = .returned (.func (.func 253) #[] #[.pointer (some ⟨n, 0, none⟩), .pointer (some ⟨f, 0, none⟩)]) ∧ Bs n l w' ∧ Bl f w' ∧ Kept w w' ∧ w.heap.size ≤ n ∧ w.heap.size ≤ f
theorem fields_any (l : List UInt8) (w : World) : Calls Tryz.prog 217 #[.string ⟨l.toArray⟩, blankV] w (FldP l w) := by
  have h1 : Bs w.heap.size l (w.alloc (.cells #[.string ⟨l.toArray⟩] 9)) := by
    show (w.heap.push _)[w.heap.size]? = _
    simp
  have k1 := (Kept.refl w).alloc (.cells #[.string ⟨l.toArray⟩] 9)
  go_enter Tryz.func217, Tryz.ntmps217
  go_upto_region 1 with (fail)
  generalize hx : w.alloc (.cells #[.string ⟨l.toArray⟩] 9) = x at *
  have s1 : x.heap.size = w.heap.size + 1 := by rw [← hx]; simp
  clear hx
  have h2 : Bl (w.heap.size + 1) (x.alloc (.cells #[blankV] 201)) := by
    show (x.heap.push _)[w.heap.size + 1]? = _
    rw [← s1]; simp
  have k2 := (Kept.refl x).alloc (.cells #[blankV] 201)
  have h3 : Bs w.heap.size l (x.alloc (.cells #[blankV] 201)) := (k2.block _ h1.lt).trans h1
  have k3 := k1.trans k2
  go_wp2
  go_ret
  exact ⟨_, _, rfl, h3, h2, k3, by omega, by omega⟩
def KpL (ks : List Nat) (W W' : World) : Prop := ∀ k ∈ ks, W'.heap[k]? = W.heap[k]?
theorem kpL_t {ks : List Nat} {A B C : World} (h : KpL ks A B) (k : KpL ks B C) : KpL ks A C := fun j hj => (k j hj).trans (h j hj)
theorem kpL_b {ks : List Nat} {w : World} (h : ∀ k ∈ ks, k < w.heap.size) (W : World) (l : Nat) (o o' : Obj) (hl : w.heap.size ≤ l) (_ : W.heap[l]? = some o) (_ : o.isCells = false) (_ : o.isWalk = false) : KpL ks W (W.putObj l o') :=
  fun k hk => World.putObj_heap_other (by have := h k hk; omega)
theorem kpL_kept {ks : List Nat} {W W' : World} (h : ∀ k ∈ ks, k < W.heap.size) (k : Kept W W') : KpL ks W W' := fun j hj => k.block j (h j hj)
abbrev own5 (n f : Nat) : List Nat := [n, f, 4, 5, 2]
theorem Env.lts {w : World} (h : Env w) : 4 < w.heap.size ∧ 5 < w.heap.size ∧ 2 < w.heap.size := by
  obtain ⟨⟨h1, h2⟩, ev, h3, h4⟩ := h
  exact ⟨cell_lt (h1 0 (by decide)), cell_lt (h2 0 (by decide)).1, cell_lt h3⟩
theorem cell_same {w w' : World} {a : Addr} {v : Value} (h : w.cell? a = some v) (e : w'.heap[a.block]? = w.heap[a.block]?) : w'.cell? a = some v := by
  unfold World.cell? at h ⊢; rw [e]; exact h
theorem Env.same {w w' : World} (h : Env w) {n f : Nat} (k : KpL (own5 n f) w w') : Env w' := by
  obtain ⟨⟨h1, h2⟩, ev, h3, h4⟩ := h
  have e1 := k 4 (by simp)
  have e2 := k 5 (by simp)
  have e3 := k 2 (by simp)
  exact ⟨⟨fun c hc => cell_same (h1 c hc) e1, fun i hi => ⟨cell_same (h2 i hi).1 e2, cell_same (h2 i hi).2 e2⟩⟩, ev, cell_same h3 e3, h4⟩
abbrev Wd := { x : List UInt8 // x ≠ [] ∧ x.length ≤ 2200000 }
abbrev ws1 (ws : List Wd) : List (List UInt8) := ws.map (·.1)
theorem rune_at (l : List UInt8) (p : Nat) (hp : p < l.length) (W : World) (hT : Env W) : ∃ r k : Nat, Stp l p r k ∧ Calls Tryz.prog 187 #[.string ⟨(l.drop p).toArray⟩] W fun e w' => e = .returned (.tuple #[.int .i32 r, .int .i64 k]) ∧ Kept W w' := by
  have hlen : 0 < (l.drop p).length := by rw [List.length_drop]; omega
  have hsz : (ByteArray.mk (l.drop p).toArray).size = (l.drop p).length := List.size_toArray
  refine ⟨(Utf8.decode ⟨(l.drop p).toArray⟩ 0).1, (Utf8.decode ⟨(l.drop p).toArray⟩ 0).2, Stp.up (stp_of (l.drop p) 0 hlen) (by omega), ?_⟩
  refine (Tryz.utf8_DecodeRuneInString ⟨(l.drop p).toArray⟩ W hT.1).mono ?_
  rintro e w' ⟨rfl, hb⟩
  refine ⟨?_, Kept.of_below hb⟩
  unfold Lib.decodeGo
  rw [if_neg (by rw [hsz]; omega)]
set_option maxRecDepth 100000 in
set_option maxHeartbeats 4000000 in
theorem fields_stops (m : Nat) (hm : 1 ≤ m) (l : List UInt8) (hl : l.length ≤ 2200000) (n f : Nat) (w : World) (hE : Env w) (Bn : Bs n l w) (Bf : Bl f w) :
    SeqStopsK Fence.wide m Tryz.prog 253 #[.pointer (some ⟨n, 0, none⟩), .pointer (some ⟨f, 0, none⟩)] (fun x : Wd => #[.string ⟨x.1.toArray⟩]) (KpL (own5 n f)) (fun xs => ws1 xs = words l) (fun _ => True) 2200001 w := by
  intro lo J Jx W hW hJ hJx hY h0
  have hsz : (ByteArray.mk l.toArray).size = l.length := List.size_toArray
  have BW : Bs n l W := (hW.block n Bn.lt).trans Bn
  have FW : Bl f W := (hW.block f Bf.lt).trans Bf
  have EW : Env W := hE.kept (Kept.of_below hW)
  have HW0 := Lib.hid (show (∀ k ∈ own5 n f, k < W.heap.size) ∧ Bs n l W ∧ Bl f W ∧ Env W from ⟨by
    intro k hk
    have := EW.lts
    simp only [List.mem_cons, List.not_mem_nil, or_false] at hk
    rcases hk with rfl | rfl | rfl | rfl | rfl
    · exact BW.lt
    · exact FW.lt
    · exact this.1
    · exact this.2.1
    · exact this.2.2, BW, FW, EW⟩)
  clear BW FW EW hE Bn Bf
  refine callsIn_of_wp Tryz.func253 rfl trivial ?_ rfl
  simp only [Tryz.ntmps253, List.size_toArray, List.length_cons, List.length_nil, Nat.reduceAdd, Nat.reduceSub, Array.replicate_succ, Array.replicate_zero, List.push_toArray, List.append_toArray, List.nil_append, List.cons_append]
  gi_wp2
  gi_loopw [4, 5] (fun vs vi wr => ∃ (ws : List Wd) (p : Nat) (st : Int), vs = .int .i64 st ∧ vi = .int .i64 p ∧ Hid (WoI l (ws1 ws) p st) ∧ Hid (J ws wr) ∧ Hid (KpL (own5 n f) W wr)) (fun _ vi _ => l.length - (intOf vi).toNat)
  case atStart => exact ⟨[], 0, -1, rfl, rfl, Lib.hid (WoI.start l), Lib.hid h0, Lib.hid (fun _ _ => rfl)⟩
  case round =>
    obtain ⟨ws, p, st, rfl, rfl, hG, hJs, hK⟩ := hrel
    have hpl := hG.out.pl
    have hlo := hG.out.lo
    have hfew := hG.out.few
    have c1 := Bs.c ((hK.out n (by simp)).trans HW0.out.2.1)
    have c2 := Bl.c ((hK.out f (by simp)).trans HW0.out.2.2.1)
    by_cases hp : p < l.length
    · obtain ⟨r, k, hs, hC⟩ := rune_at l p hp wr (HW0.out.2.2.2.same hK.out)
      have HC := Lib.hid hC
      have HS := Lib.hid hs
      have hk1 := hs.pos
      have hk2 := hs.le
      clear hs hC
      have hsl := cut_from l (p : Int) p rfl (by omega)
      have hpI : (p : Int) < l.length := by omega
      gi_wp2_with fail
      refine ⟨trivial, ?_⟩
      refine (callsIn_wide.2 HC.out).mono ?_
      rintro e w2 ⟨rfl, k2⟩
      have hks : ∀ k ∈ own5 n f, k < wr.heap.size := fun j hj => by
        have h1 := HW0.out.1 j hj
        have h2 := hK.out j hj
        rw [Array.getElem?_eq_getElem h1] at h2
        exact (Array.getElem?_eq_some_iff.1 h2).1
      have K2 := Lib.hid (kpL_t hK.out (kpL_kept hks k2))
      have J2 := Lib.hid (hJ _ wr w2 none hJs.out (k2.grownBy none) (fun r e => by cases e))
      have d1 := Bs.c ((K2.out n (by simp)).trans HW0.out.2.1)
      have d2 := Bl.c ((K2.out f (by simp)).trans HW0.out.2.2.1)
      clear c1 c2 hJs hK k2 HC hks
      gi_wp2_with fail
      refine ⟨trivial, ?_⟩
      refine (callsIn_wide.2 (isBlank_any r _)).mono ?_
      rintro e w3 ⟨rfl, rfl⟩
      cases hbl : blankR r with
      | false =>
        have HN := Lib.hid (hG.out.on HS.out hbl)
        clear hbl
        by_cases hst : st < 0
        · have hst' : ¬ 0 ≤ st := by omega
          rw [if_pos hst] at HN
          gi_wp2
          go_roundw
          case rel => exact ⟨ws, p + k, p, rfl, by go_num, HN, J2, K2⟩
          case measure => simp [intOf]; omega
        · have hst' : 0 ≤ st := by omega
          rw [if_neg hst] at HN
          gi_wp2
          go_roundw
          case rel => exact ⟨ws, p + k, st, rfl, by go_num, HN, J2, K2⟩
          case measure => simp [intOf]; omega
      | true =>
        by_cases hst : st < 0
        · have HN := Lib.hid (hG.out.gap HS.out hbl hst)
          have hst' : ¬ 0 ≤ st := by omega
          clear hbl
          gi_wp2
          go_roundw
          case rel => exact ⟨ws, p + k, st, rfl, by go_num, HN, J2, K2⟩
          case measure => simp [intOf]; omega
        · have hst' : 0 ≤ st := by omega
          have HN := Lib.hid (hG.out.end_ HS.out hbl hst')
          have hsp : st.toNat < p := by
            rcases hG.out.cur with ⟨q, _⟩ | ⟨_, q, _⟩
            · omega
            · exact q
          clear hbl
          obtain ⟨s, rfl⟩ : ∃ s : Nat, st = s := ⟨st.toNat, by omega⟩
          simp only [Int.toNat_natCast] at hsp HN
          have hcb := cut_both l s p (by omega) hpl
          have hx : (l.take p).drop s ≠ [] ∧ ((l.take p).drop s).length ≤ 2200000 := by
            refine ⟨fun e => ?_, ?_⟩
            · have := congrArg List.length e
              simp only [List.length_take, List.length_drop, List.length_nil] at this
              omega
            · simp only [List.length_take, List.length_drop]; omega
          have hfw : ws.length < 2200001 := by rw [List.length_map] at hfew; omega
          obtain ⟨fn, tmps, assign, body, hy, hR⟩ := hY ws ⟨(l.take p).drop s, hx⟩ w2 J2.out hfw
          gi_wp2_with fail
          refine hR.mono ?_
          rintro e w4 (⟨rfl, J4, k4⟩ | ⟨rfl, Jx4⟩)
          · have K4 := Lib.hid (kpL_t K2.out k4)
            have HN2 : Hid (WoI l (ws1 (ws ++ [⟨(l.take p).drop s, hx⟩])) (p + k) (-1)) := Lib.hid (by
              have := HN.out
              unfold ws1 at this ⊢
              rw [List.map_append]; exact this)
            gi_wp2
            go_roundw
            case rel => exact ⟨_, p + k, -1, rfl, by go_num, HN2, Lib.hid J4, K4⟩
            case measure => simp [intOf]; omega
          · gi_wp2
            refine bodyPost_ret (results_none rfl _ _ _) rfl ?_
            exact ⟨⟨_, rfl⟩, .inr ⟨_, trivial, Jx4⟩⟩
    · have hpI : ¬ (p : Int) < l.length := by omega
      by_cases hst : st < 0
      · have HN := Lib.hid (hG.out.shut hp hst)
        have hst' : ¬ 0 ≤ st := by omega
        gi_wp2
        go_end0
        exact ⟨⟨_, rfl⟩, .inl ⟨ws, HN.out.symm, hJs.out⟩⟩
      · have hst' : 0 ≤ st := by omega
        have HN := Lib.hid (hG.out.last hp hst')
        have hsp : st.toNat < p := by
          rcases hG.out.cur with ⟨q, _⟩ | ⟨_, q, _⟩
          · omega
          · exact q
        obtain ⟨s, rfl⟩ : ∃ s : Nat, st = s := ⟨st.toNat, by omega⟩
        simp only [Int.toNat_natCast] at hsp HN
        have hcb := cut_from l (s : Int) s rfl (by omega)
        have hx : l.drop s ≠ [] ∧ (l.drop s).length ≤ 2200000 := by
          refine ⟨fun e => ?_, ?_⟩
          · have := congrArg List.length e
            simp only [List.length_drop, List.length_nil] at this
            omega
          · simp only [List.length_drop]; omega
        have hfw : ws.length < 2200001 := by rw [List.length_map] at hfew; omega
        obtain ⟨fn, tmps, assign, body, hy, hR⟩ := hY ws ⟨l.drop s, hx⟩ wr hJs.out hfw
        have HN2 : Hid (ws1 (ws ++ [⟨l.drop s, hx⟩]) = words l) := Lib.hid (by
          have := HN.out
          unfold ws1
          rw [List.map_append, this]; rfl)
        gi_wp2_with fail
        refine hR.mono ?_
        rintro e w4 (⟨rfl, J4, k4⟩ | ⟨rfl, Jx4⟩)
        · gi_wp2
          go_end0
          exact ⟨⟨_, rfl⟩, .inl ⟨_, HN2.out, J4⟩⟩
        · gi_wp2
          go_end0
          exact ⟨⟨_, rfl⟩, .inr ⟨_, trivial, Jx4⟩⟩
attribute [local go_sem] Oper.semAt_some
theorem bd_own {B b : Nat} {l : List UInt8} {W W' : World} {row : Option Nat} (h : Bd B b l W) (hg : W.grownBy W' row) (hr : ∀ r, row = some r → ∃ o : Obj, W.heap[r]? = some o ∧ o.isCells = false) : Bd B b l W' := by
  have key : ∀ p, Lib.BuilderAtF 97 5 B b p (Lib.byteCells l) W → Lib.BuilderAtF 97 5 B b p (Lib.byteCells l) W' := fun p q => by
    obtain ⟨hB, v, hb, hown, hne⟩ := q
    refine ⟨hB, v, (grownBy_keeps_cells hg hr hb rfl).trans hb, World.ownsRowF.kept hown hg ?_, hne⟩
    cases hv : v.ownBlock with
    | none => exact Or.inl rfl
    | some g =>
      refine Or.inr (fun e => ?_)
      obtain ⟨c, fz, hc⟩ := Lib.ownsRowF_kind hown g hv
      obtain ⟨o, ho, ho2⟩ := hr g e.symm
      rw [hc] at ho
      cases ho
      cases ho2
  exact h.elim (fun q => .inl (key _ q)) (fun q => .inr (key _ q))
theorem bd_block {B b : Nat} {l : List UInt8} {W : World} (h : Bd B b l W) : ∃ cs, W.heap[b]? = some (.cells cs 97 (0, 0)) := by
  rcases h with q | q
  · obtain ⟨_, v, hb, _⟩ := q; exact ⟨_, hb⟩
  · obtain ⟨_, v, hb, _⟩ := q; exact ⟨_, hb⟩
theorem keepsFrom_of {B b : Nat} {l l' : List UInt8} {C : Nat} {W W' : World} (h : Bd B b l W) (k : Wrote B b l' W W') : KeepsFrom C W W' := by
  obtain ⟨cs, hbk⟩ := bd_block h
  refine ⟨k.below.size, fun i o _ hi ho => k.others i o hi (fun e => ?_) (fun c fz e => by rw [e] at ho; cases ho)⟩
  cases e
  rw [hbk] at hi
  cases hi
  cases ho
theorem kpL_of {B b n f : Nat} {l l' x : List UInt8} {W W' : World} (h : Bd B b l W) (k : Wrote B b l' W W') (hn : Bs n x W) (hf : Bl f W) (hE : ∀ j ∈ [4, 5, 2], j < B) : KpL (own5 n f) W W' ∧ Bs n x W' ∧ Bl f W' := by
  obtain ⟨cs, hbk⟩ := bd_block h
  have h1 : Bs n x W' := k.others n _ hn (fun e => by cases e; unfold Bs at hn; rw [hbk] at hn; cases hn) (fun c fz e => by cases e)
  have h2 : Bl f W' := k.others f _ hf (fun e => by cases e; unfold Bl at hf; rw [hbk] at hf; cases hf) (fun c fz e => by cases e)
  refine ⟨fun j hj => ?_, h1, h2⟩
  simp only [List.mem_cons, List.not_mem_nil, or_false] at hj
  rcases hj with rfl | rfl | hj
  · exact Eq.trans h1 hn.symm
  · exact Eq.trans h2 hf.symm
  · exact k.below.block j (hE j (by simpa using hj))
theorem bstr_k (B b : Nat) (l : List UInt8) (w : World) (h : Bd B b l w) (hBw : B ≤ w.heap.size) :
    Calls Tryz.prog 74 #[.pointer (some ⟨b, 0, none⟩)] w fun e w' => e = .returned (.string ⟨l.toArray⟩) ∧ Below B w w' ∧ Lib.OthersKept 5 (some b) w w' :=
  (Tryz.Builder_String_any_k B b l w h hBw).mono fun e w' ⟨h1, _, h2, h3⟩ => ⟨h1, h2, h3⟩
theorem jn_len : ∀ (ws : List Wd), (jn (ws1 ws)).length ≤ 2200001 * ws.length := by
  intro ws
  have key : ∀ (ws : List Wd) (acc : List UInt8), ((ws1 ws).foldl addW acc).length ≤ acc.length + 2200001 * ws.length := by
    intro ws
    induction ws with
    | nil => intro acc; simp [ws1]
    | cons x ws ih =>
      intro acc
      have := ih (addW acc x.1)
      have h2 : (addW acc x.1).length ≤ acc.length + 2200001 := by
        unfold addW
        have := x.2.2
        split
        · omega
        · simp; omega
      show ((ws1 ws).foldl addW (addW acc x.1)).length ≤ _
      rw [List.length_cons]; omega
  have := key ws []
  unfold jn
  simpa using this
set_option maxRecDepth 100000 in
set_option maxHeartbeats 4000000 in
theorem trim_any (l : List UInt8) (w : World) (hE : Env w) (hl : l.length ≤ 2200000) : Calls Tryz.prog 163 #[.string ⟨l.toArray⟩] w fun e w' => e = .returned (.string ⟨(tr l).toArray⟩) ∧ Kept w w' := by
  have B0 := Lib.hid (bd_new w)
  have K0 := Lib.hid ((Kept.refl w).alloc (.cells #[.pointer none, .slice none 0 0] 97))
  have hsz0 : (w.alloc (.cells #[.pointer none, .slice none 0 0] 97)).heap.size = w.heap.size + 1 := by simp
  have hlts := hE.lts
  refine (callsIn_wide (n := 5)).1 ?_
  refine callsIn_of_wp_marks Tryz.func163 rfl trivial ?_ rfl
  simp only [Tryz.ntmps163, List.size_toArray, List.length_cons, List.length_nil, Nat.reduceAdd, Nat.reduceSub, Array.replicate_succ, Array.replicate_zero, List.push_toArray, List.append_toArray, List.nil_append, List.cons_append]
  gi_wp2_with fail
  refine ⟨trivial, ?_⟩
  refine (callsIn_wide.2 (fields_any l _)).mono ?_
  rintro e w1 ⟨n, f, rfl, Bn, Bf, k1, n1, f1⟩
  have B1 := B0.out.kept k1
  have K1 := K0.out.trans k1
  have E1 := hE.kept K1
  rw [hsz0] at n1 f1
  clear hsz0 B0 K0 k1
  gi_wp2
  have ln := Bn.lt
  have lf := Bf.lt
  have hs1 := K1.size
  have hseq := fields_stops 4 (by omega) l hl n f w1 E1 Bn Bf
  have hglob : ∀ j ∈ [4, 5, 2], j < w.heap.size := fun j hj => by
    simp only [List.mem_cons, List.not_mem_nil, or_false] at hj
    rcases hj with rfl | rfl | rfl
    · exact hlts.1
    · exact hlts.2.1
    · exact hlts.2.2
  have hown : ∀ k ∈ own5 n f, k < w1.heap.size := fun k hk => by
    simp only [List.mem_cons, List.not_mem_nil, or_false] at hk
    have := E1.lts
    rcases hk with rfl | rfl | rfl | rfl | rfl
    · exact ln
    · exact lf
    · exact this.1
    · exact this.2.1
    · exact this.2.2
  refine wpIn_rangeFunc_ownG rfl (by omega) (gf := 253) (lb := #[.pointer (some ⟨n, 0, none⟩), .pointer (some ⟨f, 0, none⟩)]) rfl trivial (enters_of Tryz.func253 (by kernel_rfl) rfl)
    hseq kpL_t (kpL_b hown) (Below.refl _ _) (fun _ => rfl)
    (fun pre W => (Bd w.heap.size w.heap.size (jn (ws1 pre)) W ∧ Bs n l W ∧ Bl f W) ∧ Below w.heap.size w W)
    (fun _ _ _ => False)
    (OwnFrom.and (Own.from (fun s A B row hs hg hr => ⟨bd_own hs.1 hg hr, (grownBy_keeps_cells hg hr hs.2.1 rfl).trans hs.2.1, (grownBy_keeps_cells hg hr hs.2.2 rfl).trans hs.2.2⟩) _) (ownFrom_below (Nat.le_refl _) K1.size))
    (fun _ _ _ _ _ hs _ _ => hs)
    ⟨⟨B1, Bn, Bf⟩, K1.below (Nat.le_refl _)⟩
    (fun x => { tmps := #[.string ⟨l.toArray⟩, undef, .string ⟨#[]⟩, .pointer (some ⟨w.heap.size, 0, none⟩), .string ⟨x.1.toArray⟩, .string ⟨l.toArray⟩, .func (.func 253) #[] #[.pointer (some ⟨n, 0, none⟩), .pointer (some ⟨f, 0, none⟩)], .string ⟨x.1.toArray⟩, undef, undef, undef, undef, undef, undef], defers := [] }) ?assign ?body ?done ?stop
  case assign =>
    intro lo x W K hK
    gi_wp2
    exact hK
  case body =>
    rintro lo pre x W ⟨⟨hg, hn, hf⟩, hB⟩ hpre
    have hjl := jn_len pre
    have hxl := x.2.2
    have hsn := jn_snoc (ws1 pre) x.1
    have hsn2 : jn (ws1 (pre ++ [x])) = addW (jn (ws1 pre)) x.1 := by
      unfold ws1 at hsn ⊢
      rw [List.map_append]; exact hsn
    have HS2 := Lib.hid hsn2
    clear hsn hsn2
    generalize jn (ws1 pre) = acc at *
    have HG := Lib.hid hg
    have hBs := hB.size
    clear hg
    gi_wp2_with fail
    refine ⟨trivial, ?_⟩
    refine (CallsIn.inRound lo (callsIn_wide.2 (blen_any w.heap.size w.heap.size acc W HG.out))).mono ?_
    rintro e W1 ⟨rfl, rfl⟩
    by_cases hacc : acc = []
    · subst hacc
      gi_wp2_with fail
      refine ⟨trivial, ?_⟩
      refine (CallsIn.inRound lo (callsIn_wide.2 (wstr_any w.heap.size w.heap.size [] x.1 W HG.out (by simp; omega) hBs))).mono ?_
      rintro e W2 ⟨rfl, q2⟩
      obtain ⟨a1, a2, a3⟩ := kpL_of HG.out q2 hn hf hglob
      have a4 : KeepsFrom w1.heap.size W W2 := keepsFrom_of HG.out q2
      gi_wp2
      refine ⟨a4, a1, ⟨?_, a2, a3⟩, hB.trans q2.below⟩
      rw [HS2.out]
      exact q2.bd
    · have hp0 : (0 : Int) < acc.length := by have := List.length_pos_iff.2 hacc; omega
      gi_wp2_with fail
      refine ⟨trivial, ?_⟩
      refine (CallsIn.inRound lo (callsIn_wide.2 (wbyte_any w.heap.size w.heap.size acc 32 W HG.out (by omega) hBs))).mono ?_
      rintro e W2 ⟨rfl, q2⟩
      obtain ⟨a1, a2, a3⟩ := kpL_of HG.out q2 hn hf hglob
      have a4 : KeepsFrom w1.heap.size W W2 := keepsFrom_of HG.out q2
      gi_wp2_with fail
      refine ⟨trivial, ?_⟩
      refine (CallsIn.inRound lo (callsIn_wide.2 (wstr_any w.heap.size w.heap.size (acc ++ [32]) x.1 W2 q2.bd (by simp; omega) (hB.trans q2.below).size))).mono ?_
      rintro e W3 ⟨rfl, q3⟩
      obtain ⟨b1, b2, b3⟩ := kpL_of q2.bd q3 a2 a3 hglob
      have b4 : KeepsFrom w1.heap.size W W3 := a4.trans (keepsFrom_of q2.bd q3)
      gi_wp2
      refine ⟨b4, kpL_t a1 b1, ⟨?_, b2, b3⟩, (hB.trans q2.below).trans q3.below⟩
      have e : addW acc x.1 = acc ++ [32] ++ x.1 := by unfold addW; rw [if_neg hacc]; simp
      rw [HS2.out, e]; exact q3.bd
  case done =>
    rintro D ys W hD hys ⟨⟨hg, hn, hf⟩, hB⟩ hK
    rw [hys] at hg
    have HT := Lib.hid (tr_words l)
    have hBs := hB.size
    gi_wp2_with fail
    refine ⟨trivial, ?_⟩
    refine (callsIn_wide.2 (bstr_k w.heap.size w.heap.size (jn (words l)) W hg hBs)).mono ?_
    rintro e W2 ⟨rfl, b2, o2⟩
    have hBD := hB.trans b2
    have hbk := bd_block hg
    have hK2 : W2.heap[D]? = some (.deferred (some [])) := o2 D _ hK (fun e => by cases e; obtain ⟨cs, hbk⟩ := hbk; rw [hK] at hbk; cases hbk) (fun c fz e => by cases e)
    have hBE := hBD.trans (belowK_b (w := w) (Nat.le_refl _) W2 D _ (.deferred none) (by omega) hK2 rfl rfl)
    clear hg hbk
    gi_wp2
    refine ⟨by simp, .inl ⟨_, _, rfl, run_takeDeferred hK2, ?_⟩⟩
    exact ⟨_, results_tmp rfl _ _ _, by rw [HT.out]; rfl, Kept.of_below hBE⟩
  case stop =>
    rintro D c pre W _ _ h _
    exact h.elim
end Go.Proofs.YtjlpkgipdkjfhaaGreatDoor
namespace Go.Proofs.YtjlpkgipdkjfhaaGreatDoor
open Go.ChangeShapes Go.WideShapes Go.ChangeAt Go.RowKit
open En
theorem accept_eq : Rows.laid_unicode_utf8_acceptRanges = Lib.acceptData := by kernel_rfl
theorem errTy : (Tryz.prog.globals[2]?).map (·.type) = some 99 := by kernel_rfl
theorem starE : "*" ++ "errors.errorString" = "*errors.errorString" := by decide
theorem rowE (u : TypeId) (h : Tryz.prog.typeName? 3 u = some "*errors.errorString") : u = 227 :=
  typeName_ptr_named (nm := "errors.errorString") (by rw [starE]; kernel_rfl) (by kernel_rfl) (by decide) u (by rw [starE]; exact h)
abbrev laid7 : List (String × DataW Unit) := [("math/bits.deBruijn32tab", Rows.laid_math_bits_deBruijn32tab), ("math/bits.deBruijn64tab", Rows.laid_math_bits_deBruijn64tab), ("internal/strconv.uint64pow10", Rows.laid_internal_strconv_uint64pow10), ("unicode/utf8.acceptRanges", Rows.laid_unicode_utf8_acceptRanges), ("strconv.ErrRange", Rows.laid_strconv_ErrRange), ("strconv.ErrSyntax", Rows.laid_strconv_ErrSyntax), ("unicode.CaseRanges", Rows.laid_unicode_CaseRanges), ("unicode/utf8.first", Rows.laid_unicode_utf8_first)]
theorem env_of {W : World} (h : laidMet Tryz.prog laid7 W) : Env W := by
  refine ⟨?_, ?_⟩
  · refine utf8Tabs_of_readsT (ρ := Tryz.lays197_ren) { Tryz.lays197 with } ⟨by kernel_rfl, by kernel_rfl, by kernel_rfl, by kernel_rfl, by kernel_rfl, by kernel_rfl, by kernel_rfl⟩ ?_ ?_
    · have := Lib.laidMet.reads h (.tail _ (.tail _ (.tail _ (.tail _ (.tail _ (.tail _ (.tail _ (.head _))))))))
      rw [show Rows.laid_unicode_utf8_first = Pinned.utf8First from rfl, Pinned.utf8First_eq] at this
      exact this
    · have := Lib.laidMet.reads h (.tail _ (.tail _ (.tail _ (.head _))))
      rw [accept_eq] at this
      exact this
  · have h6 := laidMet.tail (laidMet.tail (laidMet.tail (laidMet.tail (laidMet.tail h))))
    obtain ⟨a, s, hv, _⟩ := laid_sentinel h6 (g := 2) (by kernel_rfl) errTy Tryz.underlying99 rowE Tryz.underlying227 Tryz.underlying229 rfl rfl Tryz.underlying9 (by kernel_rfl) (by kernel_rfl)
    have h0 := World.var?_cell (g := 2) (by kernel_rfl) hv 0
    exact ⟨_, h0, Or.inr ⟨_, _, rfl⟩⟩
structure EnvP (w : World) : Prop where
  env : Env w
  cv : Lib.CaseVar 8 Lib.caseA w
  ml : ∃ m, w.cell? ⟨0, 0, none⟩ = some (.int .i64 m)
theorem EnvP.kept {w w' : World} (h : EnvP w) (k : Kept w w') : EnvP w' := by
  obtain ⟨m, hm⟩ := h.ml
  exact ⟨h.env.kept k, Lib.CaseVar_below h.cv (k.below (Nat.le_refl _)), m, k.yes hm⟩
theorem envp_of {W : World} (h : laidMet Tryz.prog laid7 W) (hs : W.ShapedOpen Tryz.prog) : EnvP W := by
  refine ⟨env_of h, ?_, ?_⟩
  · exact caseVar_of_reads (ρ := Tryz.lays159_ren) { Tryz.lays159 with } Tryz.lays159.t206 ⟨by kernel_rfl, by kernel_rfl, by kernel_rfl, by kernel_rfl, by kernel_rfl, by kernel_rfl⟩ (by
      have := Lib.laidMet.reads h (.tail _ (.tail _ (.tail _ (.tail _ (.tail _ (.tail _ (.head _)))))))
      rw [show Rows.laid_unicode_CaseRanges = Pinned.caseRanges from rfl, Pinned.caseRanges_eq] at this
      exact this)
  · exact cell_of_shapedOpen_int (zero := #[.int .i64 0]) (t := 3) hs (of_decide_eq_true (by kernel_rfl)) (by kernel_rfl) rfl (by kernel_rfl) (by kernel_rfl) Tryz.underlying3
theorem handed_shaped {H : Type} {enc : TypeId × Value → H} {a : Assume} {C : Checked} {os : Os} {f : FuncId} {fn : Func} {s : ChangeSpec} {conds : List PathCond} {apart fresh handsOn again : Bool} {X : World → Array Value → Prop}
    (hX : ∀ (w w' : World) (args : Array Value), w.heap = w'.heap → X w args → X w' args)
    (own : ownKnob C.prog.godebug = none) (started : os.Started) (noInit : C.prog.inits.idxOf? f = none) (hfn : C.prog.funcs[f]? = some fn)
    (witness : ∃ (w : World) (tape : Tape) (i : Input), w.os = os ∧ (w.forCall tape i).Shaped C.prog ∧ i.vars = [] ∧ Input.okWide C.prog (w.forCall tape i) .any w.heap.size f i ∧
      ((s.pre enc C.prog fn conds apart (w.forCall tape i).memory i.args ∧ X (w.forCall tape i).memory i.args) ∧ sizedMet enc C.prog fn (OpenSpec.ofChange s) apart (w.forCall tape i).memory i.args) ∧ a.holds C.prog (lone (Frame.enter C.prog f i.args .normal) [] (w.forCall tape i)))
    (contract : ∀ (W : World) (base : Nat) (args : Array Value) (ds gs : List (DataW H)) (before : List MemPlace),
      (∀ (j : Nat) t v, fn.params[j]? = some t → args[j]? = some v → Value.okWide C.prog W .any base t v) →
      DataW.Whole enc C.prog fn.params.toList s.vars apart W args.toList ds gs before → X W args → W.ShapedOpen C.prog →
      Calls C.prog f args W fun e W' => ∃ v, e = .returned v ∧ s.post enc C.prog fn apart fresh handsOn again W args v W') :
    ReturnsInHanded a C os f .any (fun w args => (s.pre enc C.prog fn conds apart w args ∧ X w args) ∧ sizedMet enc C.prog fn (OpenSpec.ofChange s) apart w args) (s.post enc C.prog fn apart fresh handsOn again) := by
  refine returnsInHanded_of_calls own started noInit witness ?_
  intro w tape i _ hshape _ hok hpre hholds
  obtain ⟨_, _, _, fn', hfn', _, _, _, _, hval⟩ := hok
  have e : fn' = fn := Option.some.inj (hfn'.symm.trans hfn)
  subst e
  obtain ⟨⟨⟨ds, gs, before, hw, hc⟩, hx⟩, hz⟩ := hpre
  have hw' := DataW.Whole.of_heap (w' := w.forCall tape i) (by rfl) hw
  refine (contract (w.forCall tape i) w.heap.size i.args ds gs before hval hw' (hX _ _ _ (by rfl) hx) hshape).mono fun e W' ⟨v, he, hp⟩ => ?_
  subst he
  exact ChangeSpec.post_blind hp
theorem runeLen_one (r : Nat) (h : r < 128) (w : World) : Calls Tryz.prog 172 #[.int .i32 r] w fun e w' => e = .returned (.int .i64 1) ∧ w = w' := by
  refine (Tryz.utf8_RuneLen (r : Int) w).mono ?_
  rintro e w' ⟨rfl, rfl⟩
  refine ⟨?_, rfl⟩
  unfold Lib.runeLen
  rw [if_neg (by omega), if_pos (by omega)]
theorem isEmp_ne {l : List UInt8} (h : l ≠ []) : l.isEmpty = false := by simpa using h
set_option maxRecDepth 100000 in
set_option maxHeartbeats 4000000 in
theorem encode_any (l : List UInt8) (w : World) (hl : l.length ≤ 2000000) : Calls Tryz.prog 121 #[.string ⟨l.toArray⟩] w fun e w' => e = .returned (.string ⟨(enc l).toArray⟩) ∧ Kept w w' := by
  have hsz : (ByteArray.mk l.toArray).size = l.length := List.size_toArray
  have B0 := Lib.hid (bd_new w)
  have K0 := Lib.hid ((Below.refl w.heap.size w).alloc (Nat.le_refl _) (.cells #[.pointer none, .slice none 0 0] 97))
  go_enter Tryz.func121, Tryz.ntmps121
  go_wp2
  go_loopw [4] (fun vw wr => ∃ (p W : Nat) (acc : List UInt8), vw = .int .i64 W ∧ Hid (Bd w.heap.size w.heap.size acc wr) ∧ wr.heap[w.heap.size + 1]? = some (.stringIter ⟨l.toArray⟩ p) ∧ Below w.heap.size w wr ∧ Hid (EnI l acc W p)) (fun _ wr => l.length - wr.iterPos (w.heap.size + 1))
  case atStart =>
    refine ⟨0, 0, [], rfl, Lib.hid (B0.out.alloc _), ?_, K0.out.alloc (by simp) _, Lib.hid (EnI.start l)⟩
    have := World.iter_heap (w.alloc (.cells #[.pointer none, .slice none 0 0] 97)) ⟨l.toArray⟩ 0
    simpa using this
  case round =>
    obtain ⟨p, W, acc, rfl, hbd, hit, hb, hG⟩ := hrel
    have hwp := hG.out.wp
    have hpl := hG.out.pl
    have hsh := hG.out.short
    have hszr := hb.size
    by_cases hp : p < l.length
    · have hnx : ∀ ty, (Instr.next (.pointer (some ⟨w.heap.size + 1, 0, none⟩)) true ty).run Tryz.prog wr = _ := fun ty => Lib.run_next_any_at wr (w.heap.size + 1) ⟨l.toArray⟩ p ty hit (by rw [hsz]; exact hp)
      have hs := stp_of l p hp
      generalize Utf8.decode ⟨l.toArray⟩ p = d at hnx hs
      obtain ⟨r, k⟩ := d
      simp only at hnx hs
      have hit2 := Lib.iterAt_heap wr (w.heap.size + 1) ⟨l.toArray⟩ p (p + k) hit
      have hb2 := Lib.below_iterAt hb (k := w.heap.size + 1) (by omega) ⟨l.toArray⟩ (p + k)
      have hbd2 := Lib.hid (hbd.out.iterAt hit (p + k))
      have hmes : l.length - (p + k) < l.length - wr.iterPos (w.heap.size + 1) := by
        have := hs.pos
        simp only [World.iterPos, hit]; omega
      generalize wr.iterAt (w.heap.size + 1) ⟨l.toArray⟩ (p + k) = W2 at *
      have hlt := hs.pos
      have HS := Lib.hid hs
      clear hs hbd hb hit hszr
      by_cases he : entR r = []
      · have HN := Lib.hid (hG.out.next HS.out he)
        go_wp2_with fail
        refine (entityOf_any r _).mono ?_
        rintro e w3 ⟨rfl, rfl⟩
        rw [he]
        go_wp2
        go_roundw
        case rel => exact ⟨p + k, W, acc, rfl, hbd2, hit2, hb2, HN⟩
        case measure =>
          simp only [World.iterPos, hit2]
          simp only [World.iterPos] at hmes
          omega
      · have hlow := entR_low he
        obtain ⟨hk1, hN⟩ := hG.out.put HS.out he
        have HN := Lib.hid hN
        have hcb := cut_both l W p hwp hpl
        have hgl : ((l.take p).drop W).length ≤ 2000000 := by rw [List.length_drop, List.length_take]; omega
        have hxl := entR_len r
        have hem := isEmp_ne he
        clear hN
        generalize (l.take p).drop W = g at *
        have HEnt := Lib.hid (entityOf_any r W2)
        generalize entR r = x at *
        clear he
        go_wp2_with fail
        refine HEnt.out.mono ?_
        rintro e w3 ⟨rfl, rfl⟩
        go_wp2_with fail
        refine (wstr_any w.heap.size w.heap.size acc g _ hbd2.out (by omega) hb2.size).mono ?_
        rintro e w4 ⟨rfl, q4⟩
        have hit4 := q4.iter hit2 (by omega)
        have hb4 := hb2.trans q4.below
        have hbd4 := Lib.hid q4.bd
        clear q4
        go_wp2_with fail
        refine (wstr_any w.heap.size w.heap.size (acc ++ g) x _ hbd4.out (by rw [List.length_append]; omega) hb4.size).mono ?_
        rintro e w5 ⟨rfl, q5⟩
        have hit5 := q5.iter hit4 (by omega)
        have hb5 := hb4.trans q5.below
        have hbd5 := Lib.hid q5.bd
        clear hbd4 hb4 q5 hit4
        go_wp2_with fail
        refine (runeLen_one r hlow _).mono ?_
        rintro e w6 ⟨rfl, rfl⟩
        go_wp2
        go_roundw
        case rel => exact ⟨p + 1, p + 1, acc ++ g ++ x, by go_num, hbd5, (by subst hk1; exact hit5), hb5, HN⟩
        case measure =>
          simp only [World.iterPos, hit5]
          simp only [World.iterPos] at hmes
          omega
    · have hnx : ∀ ty, (Instr.next (.pointer (some ⟨w.heap.size + 1, 0, none⟩)) true ty).run Tryz.prog wr = _ := fun ty => Lib.run_next_end_at wr (w.heap.size + 1) ⟨l.toArray⟩ p ty hit (by rw [hsz]; exact hp)
      have HN := Lib.hid (hG.out.done hp)
      have hsl := cut_from l (W : Int) W rfl (by omega)
      have hdl : (l.drop W).length ≤ 2000000 := by rw [List.length_drop]; omega
      go_wp2_with fail
      refine (wstr_any w.heap.size w.heap.size acc (l.drop W) _ hbd.out (by omega) hszr).mono ?_
      rintro e w4 ⟨rfl, q4⟩
      have hb4 := hb.trans q4.below
      have hbd4 := Lib.hid q4.bd
      clear hbd q4 hb
      go_wp2_with fail
      refine (bstr_any w.heap.size w.heap.size (acc ++ l.drop W) _ hbd4.out hb4.size).mono ?_
      rintro e w5 ⟨rfl, b5⟩
      have k5 := Kept.of_below (hb4.trans b5)
      go_wp2
      go_ret
      exact ⟨by rw [HN.out]; rfl, k5⟩
end Go.Proofs.YtjlpkgipdkjfhaaGreatDoor
