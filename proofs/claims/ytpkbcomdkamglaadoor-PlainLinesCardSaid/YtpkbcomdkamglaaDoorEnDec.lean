/- Package ent: a text gone through: decoded, Decode, Loose. -/
import Derived.Test.YtpkbcomdkamglaaDoorEnBd
import Derived.Test.YtpkbcomdkamglaaDoorEnN
set_option linter.unusedSimpArgs false
set_option linter.unusedVariables false
namespace Go.Proofs.YtpkbcomdkamglaaDoor
open Go.ChangeShapes Go.WideShapes Go.ChangeAt Go.RowKit
open En
theorem Bd.kept {B b : Nat} {l : List UInt8} {w w' : World} (h : Bd B b l w) (k : Kept w w') : Bd B b l w' := by
  have key : ∀ p, Lib.BuilderAtF 39 5 B b p (Lib.byteCells l) w → Lib.BuilderAtF 39 5 B b p (Lib.byteCells l) w' := fun p q => by
    obtain ⟨hB, v, hb, hown, hne⟩ := q
    exact ⟨hB, v, (k.block b (Array.getElem?_eq_some_iff.1 hb).1).trans hb, World.ownsRowF.kept hown (k.grownBy none) (by cases hv : v.ownBlock <;> simp), hne⟩
  exact h.elim (fun q => .inl (key _ q)) (fun q => .inr (key _ q))
theorem Wrote.iter {B b k p : Nat} {l : List UInt8} {w w' : World} {s : ByteArray} (h : Wrote B b l w w') (hk : w.heap[k]? = some (.stringIter s p)) (hne : k ≠ b) : w'.heap[k]? = some (.stringIter s p) := h.others.iter hk hne
/-- what stands behind an ampersand -/
def enR (l : List UInt8) : Value := match bo l with
  | none => .tuple #[.string ⟨#[]⟩, .string ⟨#[]⟩, .bool false]
  | some b => .tuple #[.string ⟨b.toArray⟩, .string ⟨((sg b).getD []).toArray⟩, .bool (sg b).isSome]
set_option maxRecDepth 100000 in
set_option maxHeartbeats 2000000 in
theorem entity_any (l : List UInt8) (w : World) (hI : Env w) (hl : l.length ≤ 200000) : Calls Tryd.prog 40 #[.string ⟨l.toArray⟩] w fun e w' => e = .returned (enR l) ∧ Kept w w' := by
  go_enter Tryd.func40, Tryd.ntmps40
  go_wp2_with fail
  refine (bodyOf_any l _ hl).mono ?_
  rintro e w1 ⟨rfl, k1⟩
  cases hb : bo l with
  | none =>
    have HR := Lib.hid (show enR l = .tuple #[.string ⟨#[]⟩, .string ⟨#[]⟩, .bool false] by unfold enR; rw [hb])
    clear hb
    go_wp2
    refine bodyPost_ret (results_tmp3 rfl _ _ _) rfl ?_
    exact ⟨by rw [HR.out]; rfl, k1⟩
  | some b =>
    have HR := Lib.hid (show enR l = .tuple #[.string ⟨b.toArray⟩, .string ⟨((sg b).getD []).toArray⟩, .bool (sg b).isSome] by unfold enR; rw [hb])
    have hbl := (bo_len hb).1
    clear hb
    go_wp2_with fail
    refine (signOf_any b _ (hI.kept k1) hbl).mono ?_
    rintro e w2 ⟨rfl, k2⟩
    have k3 := k1.trans k2
    go_wp2
    refine bodyPost_ret (results_tmp3 rfl _ _ _) rfl ?_
    exact ⟨by rw [HR.out]; rfl, k3⟩
theorem en_none_of {l : List UInt8} (h : bo l = none) : en l = none := by
  unfold en
  rw [show bdF 11 [] l = none from h]; rfl
theorem en_none_of2 {l b : List UInt8} (h : bo l = some b) (h2 : sg b = none) : en l = none := by
  unfold en
  rw [show bdF 11 [] l = some b from h]; simp [h2]
set_option maxRecDepth 100000 in
set_option maxHeartbeats 4000000 in
theorem decoded_any (l : List UInt8) (w : World) (hI : Env w) (hl : l.length ≤ 200000) : Calls Tryd.prog 27 #[.string ⟨l.toArray⟩] w fun e w' => e = .returned (.tuple #[.string ⟨(gone l).1.toArray⟩, .bool (gone l).2]) ∧ Kept w w' := by
  have hsz : (ByteArray.mk l.toArray).size = l.length := List.size_toArray
  have B0 := Lib.hid (bd_new w)
  have K0 := Lib.hid ((Below.refl w.heap.size w).alloc (Nat.le_refl _) (.cells #[.pointer none, .slice none 0 0] 39))
  go_enter Tryd.func27, Tryd.ntmps27
  go_wp2
  go_loopw [5, 6] (fun vw va wr => ∃ (p W : Nat) (al : Bool) (acc : List UInt8), vw = .int .i64 W ∧ va = .bool al ∧ Hid (Bd w.heap.size w.heap.size acc wr) ∧ wr.heap[w.heap.size + 1]? = some (.stringIter ⟨l.toArray⟩ p) ∧ Below w.heap.size w wr ∧ Hid (GoI l acc W p al)) (fun _ _ wr => l.length - wr.iterPos (w.heap.size + 1))
  case atStart =>
    refine ⟨0, 0, true, [], rfl, rfl, Lib.hid (B0.out.alloc _), ?_, K0.out.alloc (by simp) _, Lib.hid (GoI.start l)⟩
    have := World.iter_heap (w.alloc (.cells #[.pointer none, .slice none 0 0] 39)) ⟨l.toArray⟩ 0
    simpa using this
  case round =>
    obtain ⟨p, W, al, acc, rfl, rfl, hbd, hit, hb, hG⟩ := hrel
    have hwl := hG.out.wl
    have hpl := hG.out.pl
    have hsh := hG.out.short
    have hszr := hb.size
    by_cases hp : p < l.length
    · have hnx : ∀ ty, (Instr.next (.pointer (some ⟨w.heap.size + 1, 0, none⟩)) true ty).run Tryd.prog wr = _ := fun ty => Lib.run_next_any_at wr (w.heap.size + 1) ⟨l.toArray⟩ p ty hit (by rw [hsz]; exact hp)
      have hs := stp_of l p hp
      generalize Utf8.decode ⟨l.toArray⟩ p = d at hnx hs
      obtain ⟨r, k⟩ := d
      simp only at hnx hs
      have hit2 := Lib.iterAt_heap wr (w.heap.size + 1) ⟨l.toArray⟩ p (p + k) hit
      have hb2 := Lib.below_iterAt hb (k := w.heap.size + 1) (by omega) ⟨l.toArray⟩ (p + k)
      have hbd2 := Lib.hid (hbd.out.iterAt hit (p + k))
      have hmes : l.length - (p + k) < l.length - wr.iterPos (w.heap.size + 1) := by
        have := hs.pos
        simp only [World.iterPos, hit]; omega
      generalize wr.iterAt (w.heap.size + 1) ⟨l.toArray⟩ (p + k) = W2 at *
      have hlt := hs.pos
      have HS := Lib.hid hs
      clear hs hbd hb hit hszr
      by_cases h38 : r = 38
      · obtain ⟨hk1, hWp, _, _, hp1⟩ := hG.out.amp HS.out h38
        have hsl := cut_from l ((p : Int) + 1) (p + 1) (by omega) hp1
        have hdl : (l.drop (p + 1)).length ≤ 200000 := by rw [List.length_drop]; omega
        have hcb := cut_both l W p hWp hpl
        have hgl : ((l.take p).drop W).length ≤ 200000 := by rw [List.length_drop, List.length_take]; omega
        cases hbo : bo (l.drop (p + 1)) with
        | none =>
          have HN := Lib.hid (hG.out.stay HS.out h38 (en_none_of hbo))
          have HR := Lib.hid (show enR (l.drop (p + 1)) = .tuple #[.string ⟨#[]⟩, .string ⟨#[]⟩, .bool false] by unfold enR; rw [hbo])
          subst h38
          clear hbo
          go_wp2_with fail
          refine (entity_any (l.drop (p + 1)) _ (hI.kept (Kept.of_below hb2)) hdl).mono ?_
          rintro e w3 ⟨rfl, k3⟩
          rw [HR.out]
          have hit3 := (k3.block (w.heap.size + 1) (Array.getElem?_eq_some_iff.1 hit2).1).trans hit2
          go_wp2
          go_roundw
          case rel => exact ⟨p + k, W, false, acc, rfl, rfl, Lib.hid (Bd.kept hbd2.out k3), hit3, hb2.trans (k3.below hb2.size), HN⟩
          case measure =>
            simp only [World.iterPos, hit3]
            simp only [World.iterPos] at hmes
            omega
        | some b =>
          have hbl := (bo_len hbo).1
          cases hx : sg b with
          | none =>
            have HN := Lib.hid (hG.out.stay HS.out h38 (en_none_of2 hbo hx))
            have HR := Lib.hid (show enR (l.drop (p + 1)) = .tuple #[.string ⟨b.toArray⟩, .string ⟨#[]⟩, .bool false] by unfold enR; rw [hbo]; simp only [hx]; rfl)
            subst h38
            clear hbo hx
            go_wp2_with fail
            refine (entity_any (l.drop (p + 1)) _ (hI.kept (Kept.of_below hb2)) hdl).mono ?_
            rintro e w3 ⟨rfl, k3⟩
            rw [HR.out]
            have hit3 := (k3.block (w.heap.size + 1) (Array.getElem?_eq_some_iff.1 hit2).1).trans hit2
            go_wp2
            go_roundw
            case rel => exact ⟨p + k, W, false, acc, rfl, rfl, Lib.hid (Bd.kept hbd2.out k3), hit3, hb2.trans (k3.below hb2.size), HN⟩
            case measure =>
              simp only [World.iterPos, hit3]
              simp only [World.iterPos] at hmes
              omega
          | some x =>
            have HN := Lib.hid (hG.out.put HS.out h38 hbo hx)
            have hxl := sg_len hx
            have HR := Lib.hid (show enR (l.drop (p + 1)) = .tuple #[.string ⟨b.toArray⟩, .string ⟨x.toArray⟩, .bool true] by unfold enR; rw [hbo]; simp only [hx]; rfl)
            subst h38
            clear hbo hx
            have hbs : (ByteArray.mk b.toArray).size = b.length := List.size_toArray
            go_wp2_with fail
            refine (entity_any (l.drop (p + 1)) _ (hI.kept (Kept.of_below hb2)) hdl).mono ?_
            rintro e w3 ⟨rfl, k3⟩
            rw [HR.out]
            have hit3 := (k3.block (w.heap.size + 1) (Array.getElem?_eq_some_iff.1 hit2).1).trans hit2
            have hb3 := hb2.trans (k3.below hb2.size)
            have hbd3 := Lib.hid (Bd.kept hbd2.out k3)
            clear hbd2 hb2 k3 hit2
            generalize (l.take p).drop W = g at *
            go_wp2_with fail
            refine (wstr_any w.heap.size w.heap.size acc g _ hbd3.out (by omega) hb3.size).mono ?_
            rintro e w4 ⟨rfl, q4⟩
            have hit4 := q4.iter hit3 (by omega)
            have hb4 := hb3.trans q4.below
            have hbd4 := Lib.hid q4.bd
            clear hbd3 hb3 q4 hit3
            go_wp2_with fail
            refine (wstr_any w.heap.size w.heap.size (acc ++ g) x _ hbd4.out (by rw [List.length_append]; omega) hb4.size).mono ?_
            rintro e w5 ⟨rfl, q5⟩
            have hit5 := q5.iter hit4 (by omega)
            have hb5 := hb4.trans q5.below
            have hbd5 := Lib.hid q5.bd
            clear hbd4 hb4 q5 hit4
            go_wp2
            go_roundw
            case rel => exact ⟨p + k, p + 1 + b.length + 1, al, acc ++ g ++ x, by go_num, rfl, hbd5, hit5, hb5, HN⟩
            case measure =>
              simp only [World.iterPos, hit5]
              simp only [World.iterPos] at hmes
              omega
      · have HN := Lib.hid (hG.out.next HS.out h38)
        have c2 : ((r : Int) == 38) = false := by simp; omega
        go_wp2
        go_roundw
        case rel => exact ⟨p + k, W, al, acc, rfl, rfl, hbd2, hit2, hb2, HN⟩
        case measure =>
          simp only [World.iterPos, hit2]
          simp only [World.iterPos] at hmes
          omega
    · have hnx : ∀ ty, (Instr.next (.pointer (some ⟨w.heap.size + 1, 0, none⟩)) true ty).run Tryd.prog wr = _ := fun ty => Lib.run_next_end_at wr (w.heap.size + 1) ⟨l.toArray⟩ p ty hit (by rw [hsz]; exact hp)
      have HN := Lib.hid (hG.out.done hp)
      have hsl := cut_from l (W : Int) W rfl hwl
      have hdl : (l.drop W).length ≤ 200000 := by rw [List.length_drop]; omega
      go_wp2_with fail
      refine (wstr_any w.heap.size w.heap.size acc (l.drop W) _ hbd.out (by omega) hszr).mono ?_
      rintro e w4 ⟨rfl, q4⟩
      have hb4 := hb.trans q4.below
      have hbd4 := Lib.hid q4.bd
      clear hbd q4 hb
      go_wp2_with fail
      refine (bstr_any w.heap.size w.heap.size (acc ++ l.drop W) _ hbd4.out hb4.size).mono ?_
      rintro e w5 ⟨rfl, b5⟩
      have k5 := Kept.of_below (hb4.trans b5)
      go_wp2
      go_ret2
      exact ⟨by rw [HN.out]; rfl, k5⟩
theorem loose_any (l : List UInt8) (w : World) (hI : Env w) (hl : l.length ≤ 200000) : Calls Tryd.prog 12 #[.string ⟨l.toArray⟩] w fun e w' => e = .returned (.string ⟨(gone l).1.toArray⟩) ∧ Kept w w' := by
  go_enter Tryd.func12, Tryd.ntmps12
  go_wp2_with fail
  refine (decoded_any l _ hI hl).mono ?_
  rintro e w1 ⟨rfl, k1⟩
  go_wp2
  go_ret
  exact ⟨rfl, k1⟩
end Go.Proofs.YtpkbcomdkamglaaDoor
