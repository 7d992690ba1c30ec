/- Has a text a 13 or a 10, whatever its bytes (strings.ContainsAny). -/
import Derived.Test.YtdfmnjoklehifaaDoorEnRn
import Derived.Test.YtdfmnjoklehifaaDoorRpB
import Derived.Test.YtdfmnjoklehifaaDoorShelf
import Derived.Laws.Runes
import Derived.Lib.OthersKept
import Derived.BigQuiet
set_option linter.unusedSimpArgs false
set_option linter.unusedVariables false
namespace Go.Proofs.YtdfmnjoklehifaaDoor.Bk.Rp
open Go.ChangeShapes Go.WideShapes Go.ChangeAt Go.RowKit
open En
def isEnd (c : UInt8) : Bool := c == 13 || c == 10
def hostOf (l : List UInt8) : List UInt8 := l.takeWhile fun c => !isEnd c
theorem take_len (p : UInt8 → Bool) : ∀ (l : List UInt8), (l.takeWhile p).length ≤ l.length
  | [] => by simp
  | a :: r => by rw [List.takeWhile_cons]; split <;> simp [take_len p r]
theorem takeWhile_all {p : UInt8 → Bool} : ∀ {l : List UInt8}, (∀ c ∈ l, p c = true) → l.takeWhile p = l
  | [], _ => rfl
  | a :: r, h => by
    rw [List.takeWhile_cons, if_pos (h a (by simp)), takeWhile_all fun c hc => h c (by simp [hc])]
theorem takeWhile_stop {p : UInt8 → Bool} : ∀ {l : List UInt8} {d : UInt8} {r : List UInt8}, (∀ c ∈ l, p c = true) → p d = false → (l ++ d :: r).takeWhile p = l ∧ (l ++ d :: r).dropWhile p = d :: r
  | [], d, r, _, hd => by
    rw [List.nil_append, List.takeWhile_cons, List.dropWhile_cons, if_neg (by rw [hd]; decide), if_neg (by rw [hd]; decide)]
    exact ⟨rfl, rfl⟩
  | a :: l, d, r, h, hd => by
    have ih := takeWhile_stop (l := l) (r := r) (fun c hc => h c (by simp [hc])) hd
    rw [List.cons_append, List.takeWhile_cons, List.dropWhile_cons, if_pos (h a (by simp)), if_pos (h a (by simp)), ih.1, ih.2]
    exact ⟨rfl, rfl⟩
theorem enc_high {r : Nat} (hr : 128 ≤ r) : ∃ l : List UInt8, Utf8.encode (r : Int) = ⟨l.toArray⟩ ∧ 2 ≤ l.length ∧ l.length ≤ 4 ∧ ∃ b : UInt8, l[l.length - 1]? = some b ∧ 128 ≤ b.toNat := by
  have hz : ∀ n : Nat, (UInt8.ofNat (128 + n % 64)).toNat = 128 + n % 64 := fun n => by simp; omega
  have hc : ∀ c : Nat, 128 ≤ c → ∃ l : List UInt8, (if c < 0x80 then (⟨#[UInt8.ofNat c]⟩ : ByteArray) else if c < 0x800 then ⟨#[UInt8.ofNat (0xC0 + c / 64), UInt8.ofNat (0x80 + c % 64)]⟩
      else if c < 0x10000 then ⟨#[UInt8.ofNat (0xE0 + c / 4096), UInt8.ofNat (0x80 + c / 64 % 64), UInt8.ofNat (0x80 + c % 64)]⟩
      else ⟨#[UInt8.ofNat (0xF0 + c / 262144), UInt8.ofNat (0x80 + c / 4096 % 64), UInt8.ofNat (0x80 + c / 64 % 64), UInt8.ofNat (0x80 + c % 64)]⟩) = ⟨l.toArray⟩ ∧ 2 ≤ l.length ∧ l.length ≤ 4 ∧ ∃ b : UInt8, l[l.length - 1]? = some b ∧ 128 ≤ b.toNat := by
    intro c h
    rw [if_neg (by omega)]
    split
    · exact ⟨[_, _], rfl, by simp, by simp, _, rfl, by rw [hz]; omega⟩
    · split
      · exact ⟨[_, _, _], rfl, by simp, by simp, _, rfl, by rw [hz]; omega⟩
      · exact ⟨[_, _, _, _], rfl, by simp, by simp, _, rfl, by rw [hz]; omega⟩
  unfold Utf8.encode
  simp only [Int.toNat_natCast]
  split
  · exact hc r hr
  · exact hc _ (by decide)
theorem ends_not {b : UInt8} (hb : 128 ≤ b.toNat) (l : List UInt8) (hl : ∀ c ∈ l, c.toNat < 128) : Lib.indexByte l b = -1 := by
  induction l with
  | nil => rfl
  | cons d l ih =>
    have h : (d == b) = false := by
      rw [beq_eq_false_iff_ne]; intro e; have := hl d (by simp); rw [e] at this; omega
    rw [Lib.indexByte, h, ih fun c hc => hl c (by simp [hc])]; rfl
theorem ends_cut {b : UInt8} (hb : 128 ≤ b.toNat) (k : Nat) : Lib.indexByte ((ByteArray.mk #[13, 10]).extract k 2).data.toList b = -1 := by
  refine ends_not hb _ fun c hc => ?_
  rw [ByteArray.data_extract, Array.toList_extract, List.extract_eq_take_drop] at hc
  have := List.mem_of_mem_drop (List.mem_of_mem_take hc)
  simp at this
  rcases this with rfl | rfl <;> decide
theorem ends_low {r : Nat} (hr : r < 128) : (0 ≤ Lib.indexByte [13, 10] (UInt8.ofNat r)) ↔ isEnd (UInt8.ofNat r) = true := by
  have : ∀ r : Fin 128, decide (0 ≤ Lib.indexByte [13, 10] (UInt8.ofNat r.val)) = isEnd (UInt8.ofNat r.val) := by decide +kernel
  have := this ⟨r, hr⟩
  simp only at this
  rw [← this, decide_eq_true_eq]
theorem ixb_q (s : ByteArray) (c : UInt8) (w : World) (q n : Nat) (h : Lib.indexByte s.data.toList c = -1) : Calls Tryd.prog 65 #[.string s, .int .u8 c.toNat] (w.drewN (q + n)) fun e w'' => e = .returned (.int .i64 (-1)) ∧ ∃ m, w'' = w.drewN (q + m) :=
  (Tryd.strings_IndexByte s c.toNat _).mono fun e w' ⟨h1, h2⟩ => ⟨by
    rw [h1, show ((c.toNat : Int)).toNat.toUInt8 = c by simp, h], n, h2⟩
set_option maxRecDepth 100000 in
set_option maxHeartbeats 4000000 in
theorem ixr_high (r : Nat) (w : World) (hr : 128 ≤ r) : Calls Tryd.prog 51 #[.string ⟨#[13, 10]⟩, .int .i32 r] w fun e w' => e = .returned (.int .i64 (-1)) ∧ Kept w w' := by
  have h1 : ¬ (r : Int) < 128 := by omega
  by_cases he : r = 65533
  · subst he
    have hsz : (ByteArray.mk #[13, 10]).size = 2 := rfl
    go_enter Tryd.func51, Tryd.ntmps51
    go_wp2
    go_loopw [] (fun wr => ∃ p : Nat, p ≤ 2 ∧ wr.heap[w.heap.size]? = some (.stringIter ⟨#[13, 10]⟩ p) ∧ Below w.heap.size w wr) (fun wr => 2 - wr.iterPos w.heap.size)
    case atStart =>
      refine ⟨0, by omega, ?_, (Below.refl _ _).alloc (Nat.le_refl _) _⟩
      have := World.iter_heap w ⟨#[13, 10]⟩ 0
      simpa using this
    case round =>
      obtain ⟨p, hp3, hit, hb⟩ := hrel
      by_cases hp : p < 2
      · have hnx : ∀ ty, (Instr.next (.pointer (some ⟨w.heap.size, 0, none⟩)) true ty).run Tryd.prog wr = _ := fun ty => Lib.run_next_any_at wr w.heap.size ⟨#[13, 10]⟩ p ty hit (by rw [hsz]; exact hp)
        have hs := stp_of [13, 10] p (by show p < 2; exact hp)
        have hlow : (Utf8.decode ⟨[13, 10].toArray⟩ p).1 < 128 := by
          rcases hs.cases with ⟨c, _, q, _⟩ | ⟨q, t, e1, _, e3, e4⟩
          · exact q
          · exfalso
            cases t with
            | nil => have := hs.pos; simp at e3; omega
            | cons c t =>
              have hm : c ∈ ([13, 10] : List UInt8) := List.mem_of_mem_drop (show c ∈ ([13, 10] : List UInt8).drop p by rw [e1]; simp)
              have hc := e4 c (by simp)
              simp at hm
              rcases hm with rfl | rfl
              · exact absurd hc (by decide)
              · exact absurd hc (by decide)
        rw [show (⟨[13, 10].toArray⟩ : ByteArray) = ⟨#[13, 10]⟩ from rfl] at hs hlow
        generalize Utf8.decode ⟨#[13, 10]⟩ p = d at hnx hs hlow
        obtain ⟨r, k⟩ := d
        simp only at hnx hs hlow
        have hit2 := Lib.iterAt_heap wr w.heap.size ⟨#[13, 10]⟩ p (p + k) hit
        have hb2 := Lib.below_iterAt hb (k := w.heap.size) (Nat.le_refl _) ⟨#[13, 10]⟩ (p + k)
        have hle : p + k ≤ 2 := hs.le
        have hmes : 2 - (p + k) < 2 - wr.iterPos w.heap.size := by
          have := hs.pos
          simp only [World.iterPos, hit]; omega
        generalize wr.iterAt w.heap.size ⟨#[13, 10]⟩ (p + k) = W2 at *
        have hne : ((r : Int) == 65533) = false := by rw [beq_eq_false_iff_ne]; omega
        clear hs hb hit
        go_wp2
        go_roundw
        case rel => exact ⟨p + k, hle, hit2, hb2⟩
        case measure =>
          simp only [World.iterPos, hit2]
          simp only [World.iterPos] at hmes
          omega
      · have hnx : ∀ ty, (Instr.next (.pointer (some ⟨w.heap.size, 0, none⟩)) true ty).run Tryd.prog wr = _ := fun ty => Lib.run_next_end_at wr w.heap.size ⟨#[13, 10]⟩ p ty hit (by rw [hsz]; exact hp)
        go_wp2
        go_ret
        exact ⟨rfl, Kept.of_below hb⟩
  · have h2 : ((r : Int) == 65533) = false := by rw [beq_eq_false_iff_ne]; omega
    have HB := Lib.hid (enc_high hr)
    have hcv : ∀ W : World, (convert 21 9 (.int .i32 r)).run Tryd.prog W = .ok (.string (Utf8.encode r)) W := fun W => by
      rw [run_convert_int_string W _ _ .i32 r (by rw [Tryd.underlying21]; rfl) Tryd.underlying9]
    obtain ⟨l, hl, hl2, hl4, b, hb, hb128⟩ := HB.out
    rw [hl] at hcv
    clear hl HB
    have hlz : (ByteArray.mk l.toArray).size = l.length := List.size_toArray
    have hxs : ∀ (i : Nat) (h : i < (ByteArray.mk l.toArray).size), i = l.length - 1 → (ByteArray.mk l.toArray)[i]'h = b := fun i h e => byte_at l i b (by rw [e]; exact hb) h
    have hie := ends_cut hb128
    cases hv : Lib.validRune r with
    | false =>
      go_enter Tryd.func51, Tryd.ntmps51
      go_wp2_with fail
      refine (Tryd.utf8_ValidRune _ _).mono ?_
      rintro e w1 ⟨rfl, rfl⟩
      rw [hv]
      go_wp2
      go_ret
      exact ⟨rfl, Kept.refl _⟩
    | true =>
      go_enter Tryd.func51, Tryd.ntmps51
      go_wp2_with fail
      refine (Tryd.utf8_ValidRune _ _).mono ?_
      rintro e w1 ⟨rfl, rfl⟩
      rw [hv]
      have hq : l.length = 2 ∨ l.length = 3 ∨ l.length = 4 := by omega
      have hb4 : ((b.toNat : Int)) ≤ 255 := by have := b.toNat_lt; omega
      have hbI : (128 : Int) ≤ b.toNat := by omega
      rcases hq with hn | hn | hn
      · have hx2 := fun h => hxs 1 h (by omega)
        have hnI : (l.length : Int) = 2 := by omega
        have hne : ((((ByteArray.mk #[13, 10])[1]'(by decide)).toNat : Int) != (b.toNat : Int)) = true := by
          rw [show (ByteArray.mk #[13, 10])[1]'(by decide) = 10 from rfl, bne_iff_ne, show ((10 : UInt8).toNat : Int) = 10 from rfl]; omega
        clear hxs hb hl2 hl4 hv
        go_wp2
        go_step3
        go_wp2_with fail
        refine wp_loop_rounds 1 ?_
        rw [rounds_succ]
        go_upto_region 6 with (fail)
        go_step3
        go_upto_region 6 with (fail)
        go_quiet (fail)
        go_upto_region 7 with (fail)
        go_quiet (first | exact ixb_q _ _ _ _ _ (hie _) | exact ixb_q _ _ _ _ _ (by rfl))
        go_wp2
        simp only [Exit.noGoto, Exit.inBlock, Exit.then]
        go_ret
        exact ⟨rfl, (Kept.refl _).drewN _⟩
      · have hnI : (l.length : Int) = 3 := by omega
        clear hxs hb hl2 hl4 hv
        go_wp2
        go_step3
        go_wp2_with fail
        refine wp_loop_rounds 1 ?_
        rw [rounds_succ]
        go_wp2
        simp only [Exit.noGoto, Exit.inBlock, Exit.then]
        go_ret
        exact ⟨rfl, Kept.refl _⟩
      · have hnI : (l.length : Int) = 4 := by omega
        clear hxs hb hl2 hl4 hv
        go_wp2
        go_step3
        go_wp2_with fail
        refine wp_loop_rounds 1 ?_
        rw [rounds_succ]
        go_wp2
        simp only [Exit.noGoto, Exit.inBlock, Exit.then]
        go_ret
        exact ⟨rfl, Kept.refl _⟩
/-- how far the short road has read -/
def AnyI (l : List UInt8) (p : Nat) : Prop := p ≤ l.length ∧ ∀ c ∈ l.take p, isEnd c = false
theorem any_hit {l : List UInt8} {p : Nat} {c : UInt8} (h : AnyI l p) (hc : l[p]? = some c) (he : isEnd c = true) : (hostOf l).length = p := by
  unfold hostOf
  have hp := (List.getElem?_eq_some_iff.1 hc).1
  have e : l = l.take p ++ c :: l.drop (p + 1) := by
    rw [List.getElem?_eq_some_iff] at hc
    obtain ⟨h1, h2⟩ := hc
    rw [← h2, List.getElem_cons_drop, List.take_append_drop]
  have := (takeWhile_stop (p := fun c => !isEnd c) (l := l.take p) (d := c) (r := l.drop (p + 1)) (fun d hd => by rw [h.2 d hd]; rfl) (by rw [he]; rfl)).1
  rw [← e] at this
  rw [this, List.length_take]; omega
theorem any_end {l : List UInt8} (h : AnyI l l.length) : (hostOf l).length = l.length := by
  have h2 := h.2
  rw [List.take_length] at h2
  unfold hostOf
  rw [takeWhile_all fun d hd => by rw [h2 d hd]; rfl]
theorem isEnd_high {c : UInt8} (h : 128 ≤ c.toNat) : isEnd c = false := by
  have k : ∀ (d : UInt8), d.toNat < 128 → (c == d) = false := fun d hd => by
    rw [beq_eq_false_iff_ne]; intro e; rw [e] at h; omega
  unfold isEnd
  rw [k 13 (by decide), k 10 (by decide)]; rfl
theorem any_next {l t : List UInt8} {p k : Nat} (h : AnyI l p) (ht : l.take (p + k) = l.take p ++ t) (hk : p + k ≤ l.length) (hn : ∀ c ∈ t, isEnd c = false) : AnyI l (p + k) := by
  refine ⟨hk, fun c hc => ?_⟩
  rw [ht, List.mem_append] at hc
  exact hc.elim (h.2 c) (hn c)
/-- where a host ends: what the program's IndexAny tells -/
def ixV (l : List UInt8) : Int := if (hostOf l).length < l.length then ((hostOf l).length : Int) else -1
theorem contains_end (c : UInt8) : [13, 10].contains c = isEnd c := by
  rw [Bool.eq_iff_iff]
  simp [isEnd]
theorem any_lib : ∀ (l : List UInt8), Lib.indexAny l [13, 10] = ixV l
  | [] => rfl
  | b :: l => by
    have ih := any_lib l
    have hle : (hostOf l).length ≤ l.length := take_len _ l
    rw [Lib.indexAny, contains_end, ih]
    cases hb : isEnd b with
    | true =>
      have e : hostOf (b :: l) = [] := by unfold hostOf; rw [List.takeWhile_cons, if_neg (by rw [hb]; decide)]
      unfold ixV
      rw [e, if_pos rfl]
      simp
    | false =>
      have e : hostOf (b :: l) = b :: hostOf l := by unfold hostOf; rw [List.takeWhile_cons, if_pos (by rw [hb]; rfl)]
      rw [if_neg (by decide)]
      unfold ixV
      rw [e, List.length_cons, List.length_cons]
      by_cases h : (hostOf l).length < l.length
      · have h2 : (hostOf l).length + 1 < l.length + 1 := by omega
        have h3 : ((((hostOf l).length : Int)) == -1) = false := by rw [beq_eq_false_iff_ne]; omega
        rw [if_pos h, if_pos h2, h3, if_neg (by decide)]; omega
      · have h2 : ¬ (hostOf l).length + 1 < l.length + 1 := by omega
        rw [if_neg h, if_neg h2]; rfl
set_option maxRecDepth 100000 in
set_option maxHeartbeats 4000000 in
theorem ixa_any (l : List UInt8) (w : World) (hl : l.length ≤ 1000000) : Calls Tryd.prog 40 #[.string ⟨l.toArray⟩, .string ⟨#[13, 10]⟩] w fun e w' => e = .returned (.int .i64 (ixV l)) ∧ Kept w w' := by
  have hsz : (ByteArray.mk l.toArray).size = l.length := List.size_toArray
  by_cases h8 : 8 < l.length
  · refine (Tryd.strings_IndexAny_long (fun w => by kernel_rfl) ⟨l.toArray⟩ ⟨#[13, 10]⟩ w (by decide) (by rw [hsz]; exact h8) (by rw [hsz]; omega) (by decide) ?_).mono ?_
    · intro j b hb
      have : b ∈ ([13, 10] : List UInt8) := List.mem_of_getElem? hb
      simp at this
      rcases this with rfl | rfl | rfl <;> decide
    · rintro e w' ⟨rfl, rfl⟩
      refine ⟨?_, ((Kept.refl w).alloc _).alloc _⟩
      rw [← any_lib]
  · have hs8 : decide ((8 : Int) < (l.length : Int)) = false := decide_eq_false (by omega)
    go_enter Tryd.func40, Tryd.ntmps40
    go_wp2_with fail
    refine (Tryd.strings_shouldUseASCIISet _ _).mono ?_
    rintro e w1 ⟨rfl, rfl⟩
    rw [hs8]
    go_wp2
    go_loopw [] (fun wr => ∃ p : Nat, wr.heap[w1.heap.size]? = some (.stringIter ⟨l.toArray⟩ p) ∧ Below w1.heap.size w1 wr ∧ Hid (AnyI l p)) (fun wr => l.length - wr.iterPos w1.heap.size)
    case atStart =>
      refine ⟨0, ?_, (Below.refl _ _).alloc (Nat.le_refl _) _, Lib.hid ⟨Nat.zero_le _, fun c hc => by simp at hc⟩⟩
      have := World.iter_heap w1 ⟨l.toArray⟩ 0
      simpa using this
    case round =>
      obtain ⟨p, hit, hb, hA⟩ := hrel
      by_cases hp : p < l.length
      · have hnx : ∀ ty, (Instr.next (.pointer (some ⟨w1.heap.size, 0, none⟩)) true ty).run Tryd.prog wr = _ := fun ty => Lib.run_next_any_at wr w1.heap.size ⟨l.toArray⟩ p ty hit (by rw [hsz]; exact hp)
        have hs := stp_of l p hp
        generalize Utf8.decode ⟨l.toArray⟩ p = d at hnx hs
        obtain ⟨r, k⟩ := d
        simp only at hnx hs
        have hit2 := Lib.iterAt_heap wr w1.heap.size ⟨l.toArray⟩ p (p + k) hit
        have hb2 := Lib.below_iterAt hb (k := w1.heap.size) (Nat.le_refl _) ⟨l.toArray⟩ (p + k)
        have hmes : l.length - (p + k) < l.length - wr.iterPos w1.heap.size := by
          have := hs.pos
          simp only [World.iterPos, hit]; omega
        generalize wr.iterAt w1.heap.size ⟨l.toArray⟩ (p + k) = W2 at *
        have HS := Lib.hid hs
        have hk2 := hs.le
        clear hs hb hit
        by_cases hr : r < 128
        · have hrI : (r : Int) < 128 := by omega
          have hcR := Tryd.strings_IndexRune_ascii ⟨#[13, 10]⟩ (r : Int) W2 (by omega) hrI
          have he := ends_low hr
          rw [show ((r : Int)).toNat.toUInt8 = UInt8.ofNat r by simp] at hcR
          have HC := Lib.hid hcR
          rcases HS.out.cases with ⟨c, hc1, _, hk1, hc3, hc4⟩ | ⟨q, _⟩
          · have hcr : UInt8.ofNat r = c := by rw [← hc1]; simp
            have hcp : l[p]? = some c := by
              have := congrArg (fun x => x[0]?) hc3
              simpa using this
            rw [hcr] at HC he
            clear hcR
            cases hE : isEnd c with
            | true =>
              have hge := he.2 hE
              have HV := Lib.hid (show ixV l = p by unfold ixV; rw [any_hit hA.out hcp hE, if_pos hp])
              generalize Lib.indexByte [13, 10] c = v at *
              have HC2 : Hid (Calls Tryd.prog 51 #[.string ⟨#[13, 10]⟩, .int .i32 r] W2 fun e w' => e = .returned (.int .i64 v) ∧ w' = W2) := HC
              go_wp2_with fail
              refine HC2.out.mono ?_
              rintro e w3 ⟨rfl, rfl⟩
              go_wp2
              go_ret
              exact ⟨by rw [HV.out]; rfl, Kept.of_below hb2⟩
            | false =>
              have hlt : ¬ 0 ≤ Lib.indexByte [13, 10] c := fun q => by rw [he.1 q] at hE; cases hE
              subst hk1
              have HN := Lib.hid (any_next (k := 1) hA.out hc4 (by omega) (fun d hd => by simp at hd; subst hd; exact hE))
              clear he
              have HC2 : Hid (Calls Tryd.prog 51 #[.string ⟨#[13, 10]⟩, .int .i32 r] W2 fun e w' => e = .returned (.int .i64 (Lib.indexByte [13, 10] c)) ∧ w' = W2) := HC
              generalize Lib.indexByte [13, 10] c = v at *
              go_wp2_with fail
              refine HC2.out.mono ?_
              rintro e w3 ⟨rfl, rfl⟩
              go_wp2
              go_roundw
              case rel => exact ⟨p + 1, hit2, hb2, HN⟩
              case measure =>
                simp only [World.iterPos, hit2]
                simp only [World.iterPos] at hmes
                omega
          · exact absurd hr (by omega)
        · rcases HS.out.cases with ⟨c, _, q, _⟩ | ⟨q, t, ht1, ht2, ht3, ht4⟩
          · exact absurd q hr
          · have HN := Lib.hid (any_next hA.out ht2 hk2 (fun d hd => isEnd_high (ht4 d hd)))
            have HC := Lib.hid (ixr_high r W2 q)
            go_wp2_with fail
            refine HC.out.mono ?_
            rintro e w3 ⟨rfl, k3⟩
            have hit3 : w3.heap[w1.heap.size]? = some (.stringIter ⟨l.toArray⟩ (p + k)) := (k3.block _ (Array.getElem?_eq_some_iff.1 hit2).1).trans hit2
            have hb3 := hb2.trans (k3.below hb2.size)
            go_wp2
            go_roundw
            case rel => exact ⟨p + k, hit3, hb3, HN⟩
            case measure =>
              simp only [World.iterPos, hit3]
              simp only [World.iterPos] at hmes
              omega
      · have hnx : ∀ ty, (Instr.next (.pointer (some ⟨w1.heap.size, 0, none⟩)) true ty).run Tryd.prog wr = _ := fun ty => Lib.run_next_end_at wr w1.heap.size ⟨l.toArray⟩ p ty hit (by rw [hsz]; exact hp)
        have HV := Lib.hid (show ixV l = -1 by
          have hpl : p = l.length := by have := hA.out.1; omega
          have := hA.out
          rw [hpl] at this
          unfold ixV; rw [any_end this, if_neg (by omega)])
        go_wp2
        go_ret
        exact ⟨by rw [HV.out]; rfl, Kept.of_below hb⟩
/-- has a text a 13, or a 10 -/
theorem ixV_has (l : List UInt8) : (0 ≤ ixV l) ↔ ((13 : UInt8) ∈ l ∨ (10 : UInt8) ∈ l) := by
  have h : ∀ l : List UInt8, (hostOf l).length < l.length ↔ ((13 : UInt8) ∈ l ∨ (10 : UInt8) ∈ l) := by
    intro l
    induction l with
    | nil => simp [hostOf]
    | cons b l ih =>
      cases hb : isEnd b with
      | true =>
        have e : hostOf (b :: l) = [] := by unfold hostOf; rw [List.takeWhile_cons, if_neg (by rw [hb]; decide)]
        rw [e]
        unfold isEnd at hb
        simp only [Bool.or_eq_true, beq_iff_eq] at hb
        constructor
        · intro _; rcases hb with rfl | rfl <;> simp
        · intro _; simp
      | false =>
        have e : hostOf (b :: l) = b :: hostOf l := by unfold hostOf; rw [List.takeWhile_cons, if_pos (by rw [hb]; rfl)]
        rw [e]
        unfold isEnd at hb
        simp only [Bool.or_eq_false_iff, beq_eq_false_iff_ne] at hb
        simp only [List.length_cons, Nat.add_lt_add_iff_right, ih, List.mem_cons]
        constructor
        · rintro (q | q)
          · exact Or.inl (Or.inr q)
          · exact Or.inr (Or.inr q)
        · rintro ((q | q) | (q | q))
          · exact absurd q.symm hb.1
          · exact Or.inl q
          · exact absurd q.symm hb.2
          · exact Or.inr q
  rw [← h l]
  unfold ixV
  split <;> omega
set_option maxRecDepth 100000 in
theorem has_any (l : List UInt8) (w : World) (hl : l.length ≤ 1000000) : Calls Tryd.prog 29 #[.string ⟨l.toArray⟩, .string ⟨#[13, 10]⟩] w fun e w' => e = .returned (.bool (decide ((13 : UInt8) ∈ l ∨ (10 : UInt8) ∈ l))) ∧ Kept w w' := by
  have HI := Lib.hid (ixa_any l w hl)
  have HV := Lib.hid (ixV_has l)
  generalize ixV l = v at *
  go_enter Tryd.func29, Tryd.ntmps29
  go_wp2_with fail
  refine HI.out.mono ?_
  rintro e w1 ⟨rfl, k1⟩
  go_wp2
  go_ret
  refine ⟨?_, k1⟩
  by_cases h : 0 ≤ v
  · rw [decide_eq_true (HV.out.1 h)]; simp [h]
  · rw [decide_eq_false (fun q => h (HV.out.2 q))]; simp [h]
end Go.Proofs.YtdfmnjoklehifaaDoor.Bk.Rp
