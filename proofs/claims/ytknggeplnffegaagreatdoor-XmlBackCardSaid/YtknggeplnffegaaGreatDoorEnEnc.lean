/- Package ent: a text encoded. -/
import Derived.Test.YtknggeplnffegaaGreatDoorEnDec
set_option linter.unusedVariables false
namespace Go.Proofs.YtknggeplnffegaaGreatDoor
open Go.ChangeShapes Go.WideShapes Go.ChangeAt Go.RowKit
open En
theorem runeLen_one (r : Nat) (h : r < 128) (w : World) : Calls Tryz.prog 76 #[.int .i32 r] w fun e w' => e = .returned (.int .i64 1) ∧ w = w' := by
  refine (Tryz.utf8_RuneLen (r : Int) w).mono ?_
  rintro e w' ⟨rfl, rfl⟩
  refine ⟨?_, rfl⟩
  unfold Lib.runeLen
  rw [if_neg (by omega), if_pos (by omega)]
theorem isEmp_ne {l : List UInt8} (h : l ≠ []) : l.isEmpty = false := by simpa using h
set_option maxRecDepth 100000 in
set_option maxHeartbeats 4000000 in
theorem encode_any (l : List UInt8) (w : World) (hl : l.length ≤ 200000) : Calls Tryz.prog 61 #[.string ⟨l.toArray⟩] w fun e w' => e = .returned (.string ⟨(enc l).toArray⟩) ∧ Kept w w' := by
  have hsz : (ByteArray.mk l.toArray).size = l.length := List.size_toArray
  have B0 := Lib.hid (bd_new w)
  have K0 := Lib.hid ((Below.refl w.heap.size w).alloc (Nat.le_refl _) (.cells #[.pointer none, .slice none 0 0] 87))
  go_enter Tryz.func61, Tryz.ntmps61
  go_wp2
  go_loopw [4] (fun vw wr => ∃ (p W : Nat) (acc : List UInt8), vw = .int .i64 W ∧ Hid (Bd w.heap.size w.heap.size acc wr) ∧ wr.heap[w.heap.size + 1]? = some (.stringIter ⟨l.toArray⟩ p) ∧ Below w.heap.size w wr ∧ Hid (EnI l acc W p)) (fun _ wr => l.length - wr.iterPos (w.heap.size + 1))
  case atStart =>
    refine ⟨0, 0, [], rfl, Lib.hid (B0.out.alloc _), ?_, K0.out.alloc (by simp) _, Lib.hid (EnI.start l)⟩
    have := World.iter_heap (w.alloc (.cells #[.pointer none, .slice none 0 0] 87)) ⟨l.toArray⟩ 0
    simpa using this
  case round =>
    obtain ⟨p, W, acc, rfl, hbd, hit, hb, hG⟩ := hrel
    have hwp := hG.out.wp
    have hpl := hG.out.pl
    have hsh := hG.out.short
    have hszr := hb.size
    by_cases hp : p < l.length
    · have hnx : ∀ ty, (Instr.next (.pointer (some ⟨w.heap.size + 1, 0, none⟩)) true ty).run Tryz.prog wr = _ := fun ty => Lib.run_next_any_at wr (w.heap.size + 1) ⟨l.toArray⟩ p ty hit (by rw [hsz]; exact hp)
      have hs := stp_of l p hp
      generalize Utf8.decode ⟨l.toArray⟩ p = d at hnx hs
      obtain ⟨r, k⟩ := d
      simp only at hnx hs
      have hit2 := Lib.iterAt_heap wr (w.heap.size + 1) ⟨l.toArray⟩ p (p + k) hit
      have hb2 := Lib.below_iterAt hb (k := w.heap.size + 1) (by omega) ⟨l.toArray⟩ (p + k)
      have hbd2 := Lib.hid (hbd.out.iterAt hit (p + k))
      have hmes : l.length - (p + k) < l.length - wr.iterPos (w.heap.size + 1) := by
        have := hs.pos
        simp only [World.iterPos, hit]; omega
      generalize wr.iterAt (w.heap.size + 1) ⟨l.toArray⟩ (p + k) = W2 at *
      have hlt := hs.pos
      have HS := Lib.hid hs
      clear hs hbd hb hit hszr
      by_cases he : entR r = []
      · have HN := Lib.hid (hG.out.next HS.out he)
        go_wp2_with fail
        refine (entityOf_any r _).mono ?_
        rintro e w3 ⟨rfl, rfl⟩
        rw [he]
        go_wp2
        go_roundw
        case rel => exact ⟨p + k, W, acc, rfl, hbd2, hit2, hb2, HN⟩
        case measure =>
          simp only [World.iterPos, hit2]
          simp only [World.iterPos] at hmes
          omega
      · have hlow := entR_low he
        obtain ⟨hk1, hN⟩ := hG.out.put HS.out he
        have HN := Lib.hid hN
        have hcb := cut_both l W p hwp hpl
        have hgl : ((l.take p).drop W).length ≤ 200000 := by rw [List.length_drop, List.length_take]; omega
        have hxl := entR_len r
        have hem := isEmp_ne he
        clear hN
        generalize (l.take p).drop W = g at *
        have HEnt := Lib.hid (entityOf_any r W2)
        generalize entR r = x at *
        clear he
        go_wp2_with fail
        refine HEnt.out.mono ?_
        rintro e w3 ⟨rfl, rfl⟩
        go_wp2_with fail
        refine (wstr_any w.heap.size w.heap.size acc g _ hbd2.out (by omega) hb2.size).mono ?_
        rintro e w4 ⟨rfl, q4⟩
        have hit4 := q4.iter hit2 (by omega)
        have hb4 := hb2.trans q4.below
        have hbd4 := Lib.hid q4.bd
        clear q4
        go_wp2_with fail
        refine (wstr_any w.heap.size w.heap.size (acc ++ g) x _ hbd4.out (by rw [List.length_append]; omega) hb4.size).mono ?_
        rintro e w5 ⟨rfl, q5⟩
        have hit5 := q5.iter hit4 (by omega)
        have hb5 := hb4.trans q5.below
        have hbd5 := Lib.hid q5.bd
        clear hbd4 hb4 q5 hit4
        go_wp2_with fail
        refine (runeLen_one r hlow _).mono ?_
        rintro e w6 ⟨rfl, rfl⟩
        go_wp2
        go_roundw
        case rel => exact ⟨p + 1, p + 1, acc ++ g ++ x, by go_num, hbd5, (by subst hk1; exact hit5), hb5, HN⟩
        case measure =>
          simp only [World.iterPos, hit5]
          simp only [World.iterPos] at hmes
          omega
    · have hnx : ∀ ty, (Instr.next (.pointer (some ⟨w.heap.size + 1, 0, none⟩)) true ty).run Tryz.prog wr = _ := fun ty => Lib.run_next_end_at wr (w.heap.size + 1) ⟨l.toArray⟩ p ty hit (by rw [hsz]; exact hp)
      have HN := Lib.hid (hG.out.done hp)
      have hsl := cut_from l (W : Int) W rfl (by omega)
      have hdl : (l.drop W).length ≤ 200000 := by rw [List.length_drop]; omega
      go_wp2_with fail
      refine (wstr_any w.heap.size w.heap.size acc (l.drop W) _ hbd.out (by omega) hszr).mono ?_
      rintro e w4 ⟨rfl, q4⟩
      have hb4 := hb.trans q4.below
      have hbd4 := Lib.hid q4.bd
      clear hbd q4 hb
      go_wp2_with fail
      refine (bstr_any w.heap.size w.heap.size (acc ++ l.drop W) _ hbd4.out hb4.size).mono ?_
      rintro e w5 ⟨rfl, b5⟩
      have k5 := Kept.of_below (hb4.trans b5)
      go_wp2
      go_ret
      exact ⟨by rw [HN.out]; rfl, k5⟩
end Go.Proofs.YtknggeplnffegaaGreatDoor
