/- The words of a text, told by strings.FieldsFuncSeq to a range over a function. -/
import Derived.Test.YtpkbcomdkamglaaDoorEnDec
import Derived.RangeFuncNested
import Derived.RangeFuncBound
import Derived.RangeFuncCalls
import Derived.RangeFuncLeaves
import Derived.RangeFuncOne
import Derived.Shelf.Abstract
import Derived.Shelf.RegionOpen
import Derived.OwnWalkIn
import Derived.TacticsInMore
import Derived.LoopNIn
import Derived.LoopIn
set_option linter.unusedSimpArgs false
set_option linter.unusedVariables false
namespace Go.Proofs.YtpkbcomdkamglaaDoor
open Go.ChangeShapes Go.WideShapes Go.ChangeAt Go.RowKit Go.Shelf
open En
attribute [local go_sem] Oper.semAt_some
set_option maxRecDepth 100000 in
theorem isBlank_any (r : Nat) (w : World) : Calls Tryd.prog 24 #[.int .i32 r] w fun e w' => e = .returned (.bool (blankR r)) ∧ w = w' := by
  by_cases h : r < 128
  · obtain ⟨c, rfl⟩ : ∃ c : UInt8, r = c.toNat := ⟨UInt8.ofNat r, by simp; omega⟩
    have hcv : ∀ W : World, (convert 21 5 (.int .i32 c.toNat)).run Tryd.prog W = .ok (.int .u8 c.toNat) W := fun W => by
      rw [run_convert_int W _ _ .i32 _ (by rw [Tryd.underlying21]; rfl) Tryd.underlying5, show Tryd.prog.intKind 5 = .u8 by kernel_rfl, IntKind.wrap_u8, show (c.toNat : Int) % 256 = c.toNat by omega]
    have c1 : (c.toNat : Int) < 128 := by omega
    clear h
    go_enter Tryd.func24, Tryd.ntmps24
    go_wp2_with (go_at_call 39; refine (space_any c _).mono ?_; rintro e w1 ⟨rfl, rfl⟩)
    go_ret
    exact ⟨rfl, rfl⟩
  · have hb := Lib.hid (blank_high (show 128 ≤ r by omega))
    have c1 : ¬ (r : Int) < 128 := by omega
    clear h
    go_enter Tryd.func24, Tryd.ntmps24
    go_wp2
    go_ret
    exact ⟨by rw [hb.out]; rfl, rfl⟩
theorem Stp.up {l : List UInt8} {p r k : Nat} (h : Stp (l.drop p) 0 r k) (hp : p ≤ l.length) : Stp l p r k := by
  obtain ⟨t, h1, h2, h3⟩ := h.run
  refine ⟨⟨t, ?_, h2, h3⟩, h.pos, ?_, h.big⟩
  · rw [List.drop_drop, List.drop_drop] at h1
    simpa using h1
  · have := h.le
    rw [List.length_drop] at this
    omega
abbrev blankV : Value := .func (.func 24) #[] #[]
def Bs (n : Nat) (l : List UInt8) (w : World) : Prop := w.heap[n]? = some (.cells #[.string ⟨l.toArray⟩] 9)
def Bl (f : Nat) (w : World) : Prop := w.heap[f]? = some (.cells #[blankV] 52)
theorem Bs.lt {n : Nat} {l : List UInt8} {w : World} (h : Bs n l w) : n < w.heap.size := (Array.getElem?_eq_some_iff.1 h).1
theorem Bl.lt {n : Nat} {w : World} (h : Bl n w) : n < w.heap.size := (Array.getElem?_eq_some_iff.1 h).1
theorem Bs.c {n : Nat} {l : List UInt8} {w : World} (h : Bs n l w) : w.cell? ⟨n, 0, none⟩ = some (.string ⟨l.toArray⟩) := by unfold Bs at h; simp [World.cell?, h]
theorem Bl.c {n : Nat} {w : World} (h : Bl n w) : w.cell? ⟨n, 0, none⟩ = some blankV := by unfold Bl at h; simp [World.cell?, h]
/-- the function to range over: where its variables lie -/
def FldP (l : List UInt8) (w : World) (e : Ending) (w' : World) : Prop :=
  ∃ n f : Nat, e = .returned (.func (.func 37) #[] #[.pointer (some ⟨n, 0, none⟩), .pointer (some ⟨f, 0, none⟩)]) ∧ Bs n l w' ∧ Bl f w' ∧ Kept w w' ∧ w.heap.size ≤ n ∧ w.heap.size ≤ f
theorem fields_any (l : List UInt8) (w : World) : Calls Tryd.prog 23 #[.string ⟨l.toArray⟩, blankV] w (FldP l w) := by
  have h1 : Bs w.heap.size l (w.alloc (.cells #[.string ⟨l.toArray⟩] 9)) := by
    show (w.heap.push _)[w.heap.size]? = _
    simp
  have k1 := (Kept.refl w).alloc (.cells #[.string ⟨l.toArray⟩] 9)
  go_enter Tryd.func23, Tryd.ntmps23
  go_upto_region 1 with (fail)
  generalize hx : w.alloc (.cells #[.string ⟨l.toArray⟩] 9) = x at *
  have s1 : x.heap.size = w.heap.size + 1 := by rw [← hx]; simp
  clear hx
  have h2 : Bl (w.heap.size + 1) (x.alloc (.cells #[blankV] 52)) := by
    show (x.heap.push _)[w.heap.size + 1]? = _
    rw [← s1]; simp
  have k2 := (Kept.refl x).alloc (.cells #[blankV] 52)
  have h3 : Bs w.heap.size l (x.alloc (.cells #[blankV] 52)) := (k2.block _ h1.lt).trans h1
  have k3 := k1.trans k2
  go_wp2
  go_ret
  exact ⟨_, _, rfl, h3, h2, k3, by omega, by omega⟩
/-- what a round keeps of the iterator's own -/
def KpL (ks : List Nat) (W W' : World) : Prop := ∀ k ∈ ks, W'.heap[k]? = W.heap[k]?
theorem kpL_t {ks : List Nat} {A B C : World} (h : KpL ks A B) (k : KpL ks B C) : KpL ks A C := fun j hj => (k j hj).trans (h j hj)
theorem kpL_b {ks : List Nat} {w : World} (h : ∀ k ∈ ks, k < w.heap.size) (W : World) (l : Nat) (o o' : Obj) (hl : w.heap.size ≤ l) (_ : W.heap[l]? = some o) (_ : o.isCells = false) (_ : o.isWalk = false) : KpL ks W (W.putObj l o') :=
  fun k hk => World.putObj_heap_other (by have := h k hk; omega)
theorem kpL_kept {ks : List Nat} {W W' : World} (h : ∀ k ∈ ks, k < W.heap.size) (k : Kept W W') : KpL ks W W' := fun j hj => k.block j (h j hj)
abbrev own5 (n f : Nat) : List Nat := [n, f, 0, 1, 4]
theorem Env.lts {w : World} (h : Env w) : 0 < w.heap.size ∧ 1 < w.heap.size ∧ 4 < w.heap.size := by
  obtain ⟨⟨h1, h2⟩, ev, h3, h4⟩ := h
  exact ⟨cell_lt (h1 0 (by decide)), cell_lt (h2 0 (by decide)).1, cell_lt h3⟩
theorem cell_same {w w' : World} {a : Addr} {v : Value} (h : w.cell? a = some v) (e : w'.heap[a.block]? = w.heap[a.block]?) : w'.cell? a = some v := by
  unfold World.cell? at h ⊢; rw [e]; exact h
theorem Env.same {w w' : World} (h : Env w) {n f : Nat} (k : KpL (own5 n f) w w') : Env w' := by
  obtain ⟨⟨h1, h2⟩, ev, h3, h4⟩ := h
  have e1 := k 0 (by simp)
  have e2 := k 1 (by simp)
  have e3 := k 4 (by simp)
  exact ⟨⟨fun c hc => cell_same (h1 c hc) e1, fun i hi => ⟨cell_same (h2 i hi).1 e2, cell_same (h2 i hi).2 e2⟩⟩, ev, cell_same h3 e3, h4⟩
/-- a word of a text -/
abbrev Wd := { x : List UInt8 // x ≠ [] ∧ x.length ≤ 200000 }
abbrev ws1 (ws : List Wd) : List (List UInt8) := ws.map (·.1)
theorem rune_at (l : List UInt8) (p : Nat) (hp : p < l.length) (W : World) (hT : Env W) : ∃ r k : Nat, Stp l p r k ∧ Calls Tryd.prog 38 #[.string ⟨(l.drop p).toArray⟩] W fun e w' => e = .returned (.tuple #[.int .i32 r, .int .i64 k]) ∧ Kept W w' := by
  have hlen : 0 < (l.drop p).length := by rw [List.length_drop]; omega
  have hsz : (ByteArray.mk (l.drop p).toArray).size = (l.drop p).length := List.size_toArray
  refine ⟨(Utf8.decode ⟨(l.drop p).toArray⟩ 0).1, (Utf8.decode ⟨(l.drop p).toArray⟩ 0).2, Stp.up (stp_of (l.drop p) 0 hlen) (by omega), ?_⟩
  refine (Tryd.utf8_DecodeRuneInString ⟨(l.drop p).toArray⟩ W hT.1).mono ?_
  rintro e w' ⟨rfl, hb⟩
  refine ⟨?_, Kept.of_below hb⟩
  unfold Lib.decodeGo
  rw [if_neg (by rw [hsz]; omega)]
set_option maxRecDepth 100000 in
set_option maxHeartbeats 4000000 in
theorem fields_stops (m : Nat) (hm : 1 ≤ m) (l : List UInt8) (hl : l.length ≤ 200000) (n f : Nat) (w : World) (hE : Env w) (Bn : Bs n l w) (Bf : Bl f w) :
    SeqStopsK Fence.wide m Tryd.prog 37 #[.pointer (some ⟨n, 0, none⟩), .pointer (some ⟨f, 0, none⟩)] (fun x : Wd => #[.string ⟨x.1.toArray⟩]) (KpL (own5 n f)) (fun xs => ws1 xs = words l) (fun _ => True) 200001 w := by
  intro lo J Jx W hW hJ hJx hY h0
  have hsz : (ByteArray.mk l.toArray).size = l.length := List.size_toArray
  have BW : Bs n l W := (hW.block n Bn.lt).trans Bn
  have FW : Bl f W := (hW.block f Bf.lt).trans Bf
  have EW : Env W := hE.kept (Kept.of_below hW)
  have HW0 := Lib.hid (show (∀ k ∈ own5 n f, k < W.heap.size) ∧ Bs n l W ∧ Bl f W ∧ Env W from ⟨by
    intro k hk
    have := EW.lts
    simp only [List.mem_cons, List.not_mem_nil, or_false] at hk
    rcases hk with rfl | rfl | rfl | rfl | rfl
    · exact BW.lt
    · exact FW.lt
    · exact this.1
    · exact this.2.1
    · exact this.2.2, BW, FW, EW⟩)
  clear BW FW EW hE Bn Bf
  refine callsIn_of_wp Tryd.func37 rfl trivial ?_ rfl
  simp only [Tryd.ntmps37, List.size_toArray, List.length_cons, List.length_nil, Nat.reduceAdd, Nat.reduceSub, Array.replicate_succ, Array.replicate_zero, List.push_toArray, List.append_toArray, List.nil_append, List.cons_append]
  gi_wp2
  gi_loopw [4, 5] (fun vs vi wr => ∃ (ws : List Wd) (p : Nat) (st : Int), vs = .int .i64 st ∧ vi = .int .i64 p ∧ Hid (WoI l (ws1 ws) p st) ∧ Hid (J ws wr) ∧ Hid (KpL (own5 n f) W wr)) (fun _ vi _ => l.length - (intOf vi).toNat)
  case atStart => exact ⟨[], 0, -1, rfl, rfl, Lib.hid (WoI.start l), Lib.hid h0, Lib.hid (fun _ _ => rfl)⟩
  case round =>
    obtain ⟨ws, p, st, rfl, rfl, hG, hJs, hK⟩ := hrel
    have hpl := hG.out.pl
    have hlo := hG.out.lo
    have hfew := hG.out.few
    have c1 := Bs.c ((hK.out n (by simp)).trans HW0.out.2.1)
    have c2 := Bl.c ((hK.out f (by simp)).trans HW0.out.2.2.1)
    by_cases hp : p < l.length
    · obtain ⟨r, k, hs, hC⟩ := rune_at l p hp wr (HW0.out.2.2.2.same hK.out)
      have HC := Lib.hid hC
      have HS := Lib.hid hs
      have hk1 := hs.pos
      have hk2 := hs.le
      clear hs hC
      have hsl := cut_from l (p : Int) p rfl (by omega)
      have hpI : (p : Int) < l.length := by omega
      gi_wp2_with fail
      refine ⟨trivial, ?_⟩
      refine (callsIn_wide.2 HC.out).mono ?_
      rintro e w2 ⟨rfl, k2⟩
      have hks : ∀ k ∈ own5 n f, k < wr.heap.size := fun j hj => by
        have h1 := HW0.out.1 j hj
        have h2 := hK.out j hj
        rw [Array.getElem?_eq_getElem h1] at h2
        exact (Array.getElem?_eq_some_iff.1 h2).1
      have K2 := Lib.hid (kpL_t hK.out (kpL_kept hks k2))
      have J2 := Lib.hid (hJ _ wr w2 none hJs.out (k2.grownBy none) (fun r e => by cases e))
      have d1 := Bs.c ((K2.out n (by simp)).trans HW0.out.2.1)
      have d2 := Bl.c ((K2.out f (by simp)).trans HW0.out.2.2.1)
      clear c1 c2 hJs hK k2 HC hks
      gi_wp2_with fail
      refine ⟨trivial, ?_⟩
      refine (callsIn_wide.2 (isBlank_any r _)).mono ?_
      rintro e w3 ⟨rfl, rfl⟩
      cases hbl : blankR r with
      | false =>
        have HN := Lib.hid (hG.out.on HS.out hbl)
        clear hbl
        by_cases hst : st < 0
        · have hst' : ¬ 0 ≤ st := by omega
          rw [if_pos hst] at HN
          gi_wp2
          go_roundw
          case rel => exact ⟨ws, p + k, p, rfl, by go_num, HN, J2, K2⟩
          case measure => simp [intOf]; omega
        · have hst' : 0 ≤ st := by omega
          rw [if_neg hst] at HN
          gi_wp2
          go_roundw
          case rel => exact ⟨ws, p + k, st, rfl, by go_num, HN, J2, K2⟩
          case measure => simp [intOf]; omega
      | true =>
        by_cases hst : st < 0
        · have HN := Lib.hid (hG.out.gap HS.out hbl hst)
          have hst' : ¬ 0 ≤ st := by omega
          clear hbl
          gi_wp2
          go_roundw
          case rel => exact ⟨ws, p + k, st, rfl, by go_num, HN, J2, K2⟩
          case measure => simp [intOf]; omega
        · have hst' : 0 ≤ st := by omega
          have HN := Lib.hid (hG.out.end_ HS.out hbl hst')
          have hsp : st.toNat < p := by
            rcases hG.out.cur with ⟨q, _⟩ | ⟨_, q, _⟩
            · omega
            · exact q
          clear hbl
          obtain ⟨s, rfl⟩ : ∃ s : Nat, st = s := ⟨st.toNat, by omega⟩
          simp only [Int.toNat_natCast] at hsp HN
          have hcb := cut_both l s p (by omega) hpl
          have hx : (l.take p).drop s ≠ [] ∧ ((l.take p).drop s).length ≤ 200000 := by
            refine ⟨fun e => ?_, ?_⟩
            · have := congrArg List.length e
              simp only [List.length_take, List.length_drop, List.length_nil] at this
              omega
            · simp only [List.length_take, List.length_drop]; omega
          have hfw : ws.length < 200001 := by rw [List.length_map] at hfew; omega
          obtain ⟨fn, tmps, assign, body, hy, hR⟩ := hY ws ⟨(l.take p).drop s, hx⟩ w2 J2.out hfw
          gi_wp2_with fail
          refine hR.mono ?_
          rintro e w4 (⟨rfl, J4, k4⟩ | ⟨rfl, Jx4⟩)
          · have K4 := Lib.hid (kpL_t K2.out k4)
            have HN2 : Hid (WoI l (ws1 (ws ++ [⟨(l.take p).drop s, hx⟩])) (p + k) (-1)) := Lib.hid (by
              have := HN.out
              unfold ws1 at this ⊢
              rw [List.map_append]; exact this)
            gi_wp2
            go_roundw
            case rel => exact ⟨_, p + k, -1, rfl, by go_num, HN2, Lib.hid J4, K4⟩
            case measure => simp [intOf]; omega
          · gi_wp2
            refine bodyPost_ret (results_none rfl _ _ _) rfl ?_
            exact ⟨⟨_, rfl⟩, .inr ⟨_, trivial, Jx4⟩⟩
    · have hpI : ¬ (p : Int) < l.length := by omega
      by_cases hst : st < 0
      · have HN := Lib.hid (hG.out.shut hp hst)
        have hst' : ¬ 0 ≤ st := by omega
        gi_wp2
        go_end0
        exact ⟨⟨_, rfl⟩, .inl ⟨ws, HN.out.symm, hJs.out⟩⟩
      · have hst' : 0 ≤ st := by omega
        have HN := Lib.hid (hG.out.last hp hst')
        have hsp : st.toNat < p := by
          rcases hG.out.cur with ⟨q, _⟩ | ⟨_, q, _⟩
          · omega
          · exact q
        obtain ⟨s, rfl⟩ : ∃ s : Nat, st = s := ⟨st.toNat, by omega⟩
        simp only [Int.toNat_natCast] at hsp HN
        have hcb := cut_from l (s : Int) s rfl (by omega)
        have hx : l.drop s ≠ [] ∧ (l.drop s).length ≤ 200000 := by
          refine ⟨fun e => ?_, ?_⟩
          · have := congrArg List.length e
            simp only [List.length_drop, List.length_nil] at this
            omega
          · simp only [List.length_drop]; omega
        have hfw : ws.length < 200001 := by rw [List.length_map] at hfew; omega
        obtain ⟨fn, tmps, assign, body, hy, hR⟩ := hY ws ⟨l.drop s, hx⟩ wr hJs.out hfw
        have HN2 : Hid (ws1 (ws ++ [⟨l.drop s, hx⟩]) = words l) := Lib.hid (by
          have := HN.out
          unfold ws1
          rw [List.map_append, this]; rfl)
        gi_wp2_with fail
        refine hR.mono ?_
        rintro e w4 (⟨rfl, J4, k4⟩ | ⟨rfl, Jx4⟩)
        · gi_wp2
          go_end0
          exact ⟨⟨_, rfl⟩, .inl ⟨_, HN2.out, J4⟩⟩
        · gi_wp2
          go_end0
          exact ⟨⟨_, rfl⟩, .inr ⟨_, trivial, Jx4⟩⟩
end Go.Proofs.YtpkbcomdkamglaaDoor
