/- Package ident: an address's host and rest. -/
import Derived.Test.YtpkkpjonlogliaaDoorIdN
import Derived.Test.YtpkkpjonlogliaaDoorEnTrim
import Derived.Deep.RegionHeld3
set_option linter.unusedSimpArgs false
set_option linter.unusedVariables false
namespace Go.Proofs.YtpkkpjonlogliaaDoor
open Go.ChangeShapes Go.WideShapes Go.ChangeAt Go.RowKit
open En Idn
theorem Env.maxl {w : World} (h : Env w) : ∃ m, w.cell? ⟨3, 0, none⟩ = some (.int .i64 m) := h.2.2
theorem cut_hash : ∀ (l : List UInt8), (Lib.cut l [35]).1 = toHash l := by
  have key : ∀ (l : List UInt8), Lib.index l [35] = if (toHash l).length < l.length then ((toHash l).length : Int) else -1 := by
    intro l
    induction l with
    | nil => rfl
    | cons b l ih =>
      have hle : (toHash l).length ≤ l.length := take_len _ l
      rw [Lib.index, ih]
      by_cases hb : b = 35
      · subst hb
        rfl
      · have e : toHash (b :: l) = b :: toHash l := by unfold toHash; rw [List.takeWhile_cons, if_pos (by simpa using hb)]
        have hp : List.isPrefixOf [35] (b :: l) = false := by
          rw [List.isPrefixOf, List.isPrefixOf, Bool.and_true, beq_eq_false_iff_ne]; exact fun q => hb q.symm
        rw [hp, e, List.length_cons, List.length_cons]
        by_cases h : (toHash l).length < l.length
        · have h2 : (toHash l).length + 1 < l.length + 1 := by omega
          have h3 : ((((toHash l).length : Int)) == -1) = false := by rw [beq_eq_false_iff_ne]; omega
          rw [if_pos h, if_pos h2, h3, if_neg (by decide), if_neg (by decide)]; omega
        · have h2 : ¬ (toHash l).length + 1 < l.length + 1 := by omega
          rw [if_neg h, if_neg h2]; rfl
  intro l
  have hle : (toHash l).length ≤ l.length := take_len _ l
  have hpre : l.take (toHash l).length = toHash l := tw_take _ l
  unfold Lib.cut
  rw [key l]
  by_cases h : (toHash l).length < l.length
  · rw [if_pos h, if_pos (by omega), Int.toNat_natCast, hpre]
  · rw [if_neg h, if_neg (by decide)]
    have e : (toHash l).length = l.length := by omega
    rw [← hpre, e, List.take_length]
theorem hash_len (l : List UInt8) : (toHash l).length ≤ l.length := take_len _ l
theorem cutH_any (l : List UInt8) (w : World) (hE : Env w) (hl : l.length ≤ 1000000) : Calls Tryd.prog 37 #[.string ⟨l.toArray⟩, .string ⟨#[35]⟩] w fun e w' => (∃ x b, e = .returned (.tuple #[.string ⟨(toHash l).toArray⟩, .string x, .bool b])) ∧ Kept w w' := by
  obtain ⟨m, hm⟩ := hE.maxl
  refine (Tryd.strings_Cut ⟨l.toArray⟩ ⟨#[35]⟩ m w (by rw [show (ByteArray.mk l.toArray).size = l.length from List.size_toArray]; omega) hm).mono ?_
  rintro e w' ⟨rfl, n, rfl⟩
  refine ⟨⟨⟨(Lib.cut l [35]).2.1.toArray⟩, (Lib.cut l [35]).2.2, ?_⟩, (Kept.refl w).drewN n⟩
  rw [← cut_hash]
theorem pre47 (l : List UInt8) : Lib.hasPrefix l [47] = decide (l.head? = some 47) := by
  unfold Lib.hasPrefix
  cases l with
  | nil => rfl
  | cons b l =>
    rw [List.isPrefixOf, List.isPrefixOf, Bool.and_true]
    by_cases hb : b = 47
    · subst hb; simp
    · have h1 : ((47 : UInt8) == b) = false := by rw [beq_eq_false_iff_ne]; exact fun q => hb q.symm
      rw [h1]; symm; rw [decide_eq_false_iff_not]; simpa using hb
theorem str_app (a b : List UInt8) : (⟨a.toArray⟩ ++ ⟨b.toArray⟩ : ByteArray) = ⟨(a ++ b).toArray⟩ := by
  apply ByteArray.ext; simp [ByteArray.data_append]
set_option maxRecDepth 100000 in
set_option maxHeartbeats 4000000 in
theorem rest_any (a : List UInt8) (w : World) (hE : Env w) (hl : a.length ≤ 100000) : Calls Tryd.prog 25 #[.string ⟨a.toArray⟩] w fun e w' => e = .returned (.string ⟨(restS a).toArray⟩) ∧ Kept w w' := by
  have hho : (hostOf a).length ≤ a.length := take_len _ a
  have hcf := cut_from a ((hostOf a).length : Int) (hostOf a).length rfl hho
  have hdr : a.drop (hostOf a).length = restOf a := tw_drop _ a
  rw [hdr] at hcf
  have hrl : (restOf a).length ≤ 100000 := by have : (restOf a).length ≤ a.length := drop_len _ a; omega
  have hhl := hash_len (restOf a)
  have HR := Lib.hid (show restS a = slashed (tr (toHash (restOf a))) from rfl)
  have HH := Lib.hid (fun w => hostLen_any a w (by omega))
  have HC := Lib.hid (fun w (hE : Env w) => cutH_any (restOf a) w hE (by omega))
  have HT := Lib.hid (fun w (hE : Env w) => trim_any (toHash (restOf a)) w hE (by omega))
  have htl := tr_len (toHash (restOf a))
  have HE := Lib.hid hE
  clear hdr hE
  generalize (hostOf a).length = n at *
  generalize tr (toHash (restOf a)) = x at *
  generalize toHash (restOf a) = y at *
  generalize restOf a = r at *
  generalize restS a = z at *
  go_enter Tryd.func25, Tryd.ntmps25
  go_wp2_with fail
  refine (HH.out _).mono ?_
  rintro e w1 ⟨rfl, k1⟩
  go_wp2_with fail
  refine (HC.out _ (HE.out.kept k1)).mono ?_
  rintro e w2 ⟨⟨x1, b1, rfl⟩, k2⟩
  have k3 := k1.trans k2
  go_wp2_with fail
  refine (HT.out _ (HE.out.kept k3)).mono ?_
  rintro e w4 ⟨rfl, k4⟩
  have k5 := k3.trans k4
  clear k1 k2 k3 k4
  go_wp2_with fail
  refine (Tryd.strings_HasPrefix ⟨x.toArray⟩ ⟨#[47]⟩ _).mono ?_
  rintro e w6 ⟨rfl, rfl⟩
  rw [show Lib.hasPrefix (ByteArray.mk x.toArray).data.toList (ByteArray.mk #[47]).data.toList = Lib.hasPrefix x [47] from rfl, pre47]
  by_cases hs : x.head? = some 47
  · have HZ := Lib.hid (show z = x by rw [HR.out]; exact slashed_eq hs)
    rw [decide_eq_true hs]
    clear hs HR
    go_wp2
    go_ret
    exact ⟨by rw [HZ.out]; rfl, k5⟩
  · have HZ := Lib.hid (show z = 47 :: x by rw [HR.out]; unfold slashed; rw [if_neg hs])
    rw [decide_eq_false hs]
    clear hs HR
    go_wp2
    go_ret
    exact ⟨by rw [HZ.out]; show Ending.returned (Value.string (⟨[47].toArray⟩ ++ ⟨x.toArray⟩)) = _; rw [str_app]; rfl, k5⟩
/-- a kind of addresses, in a block -/
def Wb (b : Nat) (s p : List UInt8) (W : World) : Prop := W.heap[b]? = some (.cells #[.string ⟨s.toArray⟩, .string ⟨p.toArray⟩] 44)
theorem Wb.lt {b : Nat} {s p : List UInt8} {W : World} (h : Wb b s p W) : b < W.heap.size := (Array.getElem?_eq_some_iff.1 h).1
theorem Wb.kept {b : Nat} {s p : List UInt8} {W W' : World} (h : Wb b s p W) (k : Kept W W') : Wb b s p W' := (k.block _ h.lt).trans h
theorem Wb.cells {b : Nat} {s p : List UInt8} {W : World} (h : Wb b s p W) : W.cell? ⟨b, 0, none⟩ = some (.string ⟨s.toArray⟩) ∧ W.cell? ⟨b, 1, none⟩ = some (.string ⟨p.toArray⟩) := ⟨cell_at h rfl, cell_at h rfl⟩
theorem Wb.new (W : World) (s p : List UInt8) : Wb W.heap.size s p (W.alloc (.cells #[.string ⟨s.toArray⟩, .string ⟨p.toArray⟩] 44)) := World.alloc_heap_new W _
set_option maxRecDepth 100000 in
set_option maxHeartbeats 4000000 in
theorem host_any (s p a : List UInt8) (w : World) (hp : p ≠ []) (hl : a.length ≤ 100000) (hpl : p.length ≤ 10) : Calls Tryd.prog 24 #[.agg #[.string ⟨s.toArray⟩, .string ⟨p.toArray⟩], .string ⟨a.toArray⟩] w fun e w' => e = .returned (.string ⟨(hostS p a).toArray⟩) ∧ Kept w w' := by
  have hho : (hostOf a).length ≤ a.length := take_len _ a
  have hct := cut_to a (hostOf a).length hho
  have htk : a.take (hostOf a).length = hostOf a := tw_take _ a
  rw [htk] at hct
  have hll : (lo (hostOf a)).length = (hostOf a).length := List.length_map _
  have HH := Lib.hid (fun w => hostLen_any a w (by omega))
  have HL := Lib.hid (fun w => lowered_any (hostOf a) w (by omega))
  have B0 := Lib.hid (Wb.new w s p)
  have K0 := Lib.hid ((Kept.refl w).alloc (.cells #[.string ⟨s.toArray⟩, .string ⟨p.toArray⟩] 44))
  have HR := Lib.hid (show hostS p a = strip p (lo (hostOf a)) from rfl)
  have HP := Lib.hid hp
  clear htk hp
  generalize (hostOf a).length = n at *
  generalize lo (hostOf a) = h0 at *
  generalize hostOf a = y at *
  generalize hostS p a = z at *
  go_enter Tryd.func24, Tryd.ntmps24
  go_upto_region 1 with (fail)
  generalize w.alloc (.cells #[.string ⟨s.toArray⟩, .string ⟨p.toArray⟩] 44) = x0 at *
  go_wp2_with fail
  refine (HH.out _).mono ?_
  rintro e w1 ⟨rfl, k1⟩
  go_wp2_with fail
  refine (HL.out _).mono ?_
  rintro e w2 ⟨rfl, k2⟩
  have K2 := Lib.hid (K0.out.trans (k1.trans k2))
  have B2 := Lib.hid (B0.out.kept (k1.trans k2))
  have hh0 : h0.length ≤ 100000 := by omega
  clear k1 k2 K0 B0 hct HH HL hho hll
  go_wp2_with fail
  go_loopw [5] (fun vh wr => ∃ h : List UInt8, vh = .string ⟨h.toArray⟩ ∧ wr = w2 ∧ h.length ≤ 100000 ∧ Hid (z = strip p h)) (fun vh _ => (match vh with | .string s => s.size | _ => 0))
  case atStart => exact ⟨h0, rfl, rfl, hh0, HR⟩
  case round =>
    obtain ⟨h, rfl, rfl, hhl, hZ⟩ := hrel
    obtain ⟨c0, c1⟩ := B2.out.cells
    have hsz : (ByteArray.mk h.toArray).size = h.length := List.size_toArray
    go_wp2_with fail
    refine (Tryd.strings_HasSuffix ⟨h.toArray⟩ ⟨p.toArray⟩ _ (by rw [hsz]; omega)).mono ?_
    rintro e w3 ⟨rfl, rfl⟩
    rw [show Lib.hasSuffix (ByteArray.mk h.toArray).data.toList (ByteArray.mk p.toArray).data.toList = p.isSuffixOf h from rfl]
    cases hq : p.isSuffixOf h with
    | true =>
      have hp1 : 0 < p.length := List.length_pos_iff.2 HP.out
      have hp2 : p.length ≤ h.length := (List.isSuffixOf_iff_suffix.1 hq).length_le
      have HN := Lib.hid (hZ.out.trans (strip_step HP.out hq))
      have hct := cut_to h (h.length - p.length) (by omega)
      rw [show ((h.length - p.length : Nat) : Int) = (h.length : Int) - p.length by omega] at hct
      have htl : (h.take (h.length - p.length)).length < h.length := by rw [List.length_take]; omega
      clear hq hZ
      go_wp2
      go_roundw
      case rel => exact ⟨_, rfl, trivial, by omega, HN⟩
      case measure =>
        show (ByteArray.mk (h.take (h.length - p.length)).toArray).size < (ByteArray.mk h.toArray).size
        rw [hsz, show (ByteArray.mk (h.take (h.length - p.length)).toArray).size = (h.take (h.length - p.length)).length from List.size_toArray]; exact htl
    | false =>
      have HN := Lib.hid (hZ.out.trans (strip_id hq))
      clear hq hZ
      go_wp2
      go_ret
      exact ⟨by rw [HN.out]; rfl, K2.out⟩
/-- what is behind the beginning -/
def cutT (s t : List UInt8) : List UInt8 := if begins t s = true then t.drop s.length else []
set_option maxRecDepth 100000 in
set_option maxHeartbeats 4000000 in
theorem cut_any (s p t : List UInt8) (w : World) (hl : t.length ≤ 200000) (hsl : s.length ≤ 10) : Calls Tryd.prog 23 #[.agg #[.string ⟨s.toArray⟩, .string ⟨p.toArray⟩], .string ⟨t.toArray⟩] w fun e w' => e = .returned (.tuple #[.string ⟨(cutT s t).toArray⟩, .bool (begins t s)]) ∧ Kept w w' := by
  have B0 := Lib.hid (Wb.new w s p)
  have K0 := Lib.hid ((Kept.refl w).alloc (.cells #[.string ⟨s.toArray⟩, .string ⟨p.toArray⟩] 44))
  by_cases hlt : t.length < s.length
  · have hltI : (t.length : Int) < s.length := by omega
    have HB := Lib.hid (show begins t s = false by unfold begins; rw [decide_eq_false (by omega)]; rfl)
    have HC := Lib.hid (show cutT s t = [] by unfold cutT; rw [HB.out]; rfl)
    clear hlt
    generalize begins t s = bg at *
    generalize cutT s t = ct at *
    go_enter Tryd.func23, Tryd.ntmps23
    go_upto_region 1 with (fail)
    generalize w.alloc (.cells #[.string ⟨s.toArray⟩, .string ⟨p.toArray⟩] 44) = x0 at *
    obtain ⟨c0, c1⟩ := B0.out.cells
    go_quiet (fail)
    clear c0 c1
    go_wp2
    go_ret2
    exact ⟨by rw [HB.out, HC.out]; rfl, K0.out.drewN _⟩
  have hltI : ¬ (t.length : Int) < s.length := by omega
  have hct := cut_to t s.length (by omega)
  have HL := fun w => lowered_any (t.take s.length) w (by rw [List.length_take]; omega)
  have hcf := cut_from t (s.length : Int) s.length rfl (by omega)
  cases hb : begins t s with
  | true =>
    have hbe : lo (t.take s.length) = s := by
      unfold begins at hb
      simp only [Bool.and_eq_true, beq_iff_eq] at hb
      exact hb.2
    have hbs : ((ByteArray.mk s.toArray) != (ByteArray.mk s.toArray)) = false := by rw [bne, ba_beq, decide_eq_true rfl]; rfl
    have hc : cutT s t = t.drop s.length := by unfold cutT; rw [if_pos hb]
    simp only [hbe] at HL
    rw [hc]
    clear hbe hb hlt hc
    generalize t.take s.length = y at *
    generalize t.drop s.length = z at *
    go_enter Tryd.func23, Tryd.ntmps23
    go_upto_region 1 with (fail)
    generalize w.alloc (.cells #[.string ⟨s.toArray⟩, .string ⟨p.toArray⟩] 44) = x0 at *
    obtain ⟨c0, c1⟩ := B0.out.cells
    have KD := Lib.hid ((Kept.refl x0).drew)
    have WB := Lib.hid (B0.out.kept KD.out)
    clear c0 c1
    refine wp_region_held_drew (S := (fun y => y.cell? ⟨w.heap.size, 0, none⟩ = some (.string ⟨s.toArray⟩))) (by kernel_rfl) (WB.out.cells.1) (fun hS0 => ?_)
    refine wpAnyH_take (i := 0) (oi := { dst := some 6, op := Go.Op.move (Go.Operand.tmp 1), type := 9, pos := "address.go:16", after := #[], guard := none }) (v := ?vs0) rfl (by kernel_rfl) (by kernel_rfl) (by kernel_rfl) (fun _ _ _ h => h) (Or.inl ⟨by rfl, ?ys0⟩) (by assumption) ?rs0
    case ys0 => (intro wq hSw; (try dsimp only at hSw); go_simp; try with_reducible rfl)
    simp only [Act.put, List.setIfInBounds_toArray, List.set_cons_zero, List.set_cons_succ]
    refine wpAnyH_take (i := 1) (oi := { dst := some 7, op := Go.Op.call { callee := Go.Callee.builtin Go.Builtin.len, args := #[Go.Operand.tmp 6], argTypes := #[9] }, type := 3, pos := "address.go:16", after := #[{ on := 0, ground := Go.Ground.data }], guard := none }) (v := ?vs1) rfl (by kernel_rfl) (by kernel_rfl) (by kernel_rfl) (fun _ _ _ h => h) (Or.inl ⟨by rfl, ?ys1⟩) (by assumption) ?rs1
    case ys1 => (intro wq hSw; (try dsimp only at hSw); go_simp; try with_reducible rfl)
    simp only [Act.put, List.setIfInBounds_toArray, List.set_cons_zero, List.set_cons_succ]
    refine wpAnyH_take (i := 2) (oi := { dst := some 8, op := Go.Op.fieldAddr 44 (Go.Operand.tmp 2) 0, type := 0, pos := "address.go:16", after := #[], guard := none }) (v := ?vs2) rfl (by kernel_rfl) (by kernel_rfl) (by kernel_rfl) (fun _ _ _ h => h) (Or.inl ⟨by rfl, ?ys2⟩) (by assumption) ?rs2
    case ys2 => (intro wq hSw; (try dsimp only at hSw); go_simp; try with_reducible rfl)
    simp only [Act.put, List.setIfInBounds_toArray, List.set_cons_zero, List.set_cons_succ]
    refine wpAnyH_take (i := 3) (oi := { dst := some 9, op := Go.Op.load 9 (Go.Operand.tmp 8), type := 9, pos := "address.go:16", after := #[{ on := 2, ground := Go.Ground.data }], guard := none }) (v := ?vs3) rfl (by kernel_rfl) (by kernel_rfl) (by kernel_rfl) (fun _ _ _ h => h) (Or.inl ⟨by rfl, ?ys3⟩) (by assumption) ?rs3
    case ys3 => (intro wq hSw; (try dsimp only at hSw); go_simp; try with_reducible rfl)
    simp only [Act.put, List.setIfInBounds_toArray, List.set_cons_zero, List.set_cons_succ]
    refine wpAnyH_take (i := 4) (oi := { dst := some 10, op := Go.Op.call { callee := Go.Callee.builtin Go.Builtin.len, args := #[Go.Operand.tmp 9], argTypes := #[9] }, type := 3, pos := "address.go:16", after := #[{ on := 3, ground := Go.Ground.data }], guard := none }) (v := ?vs4) rfl (by kernel_rfl) (by kernel_rfl) (by kernel_rfl) (fun _ _ _ h => h) (Or.inl ⟨by rfl, ?ys4⟩) (by assumption) ?rs4
    case ys4 => (intro wq hSw; (try dsimp only at hSw); go_simp; try with_reducible rfl)
    simp only [Act.put, List.setIfInBounds_toArray, List.set_cons_zero, List.set_cons_succ]
    refine wpAnyH_take (i := 5) (oi := { dst := some 11, op := Go.Op.binOp Go.BinOp.lss 3 (Go.Operand.tmp 7) (Go.Operand.tmp 10) 3, type := 4, pos := "address.go:16", after := #[{ on := 1, ground := Go.Ground.data }, { on := 4, ground := Go.Ground.data }], guard := none }) (v := ?vs5) rfl (by kernel_rfl) (by kernel_rfl) (by kernel_rfl) (fun _ _ _ h => h) (Or.inl ⟨by rfl, ?ys5⟩) (by assumption) ?rs5
    case ys5 => (intro wq hSw; (try dsimp only at hSw); go_simp; try with_reducible rfl)
    simp only [Act.put, List.setIfInBounds_toArray, List.set_cons_zero, List.set_cons_succ]
    refine wpAnyH_take (i := 6) (oi := { dst := some 12, op := Go.Op.move (Go.Operand.tmp 11), type := 4, pos := "address.go:16", after := #[{ on := 5, ground := Go.Ground.data }], guard := none }) (v := ?vs6) rfl (by kernel_rfl) (by kernel_rfl) (by kernel_rfl) (fun _ _ _ h => h) (Or.inl ⟨by rfl, ?ys6⟩) (by assumption) ?rs6
    case ys6 => (intro wq hSw; (try dsimp only at hSw); go_simp; try with_reducible rfl)
    simp only [Act.put, List.setIfInBounds_toArray, List.set_cons_zero, List.set_cons_succ]
    refine wpAnyH_take (i := 7) (oi := { dst := some 13, op := Go.Op.move (Go.Operand.tmp 1), type := 9, pos := "address.go:16", after := #[{ on := 6, ground := Go.Ground.guard }], guard := some (6, false) }) (v := ?vs7) rfl (by kernel_rfl) (by kernel_rfl) (by kernel_rfl) (fun _ _ _ h => h) (Or.inl ⟨by rfl, ?ys7⟩) (by assumption) ?rs7
    case ys7 => (intro wq hSw; (try dsimp only at hSw); go_simp; try with_reducible rfl)
    simp only [Act.put, List.setIfInBounds_toArray, List.set_cons_zero, List.set_cons_succ]
    refine wpAnyH_take (i := 8) (oi := { dst := some 14, op := Go.Op.fieldAddr 44 (Go.Operand.tmp 2) 0, type := 0, pos := "address.go:16", after := #[{ on := 6, ground := Go.Ground.guard }], guard := some (6, false) }) (v := ?vs8) rfl (by kernel_rfl) (by kernel_rfl) (by kernel_rfl) (fun _ _ _ h => h) (Or.inl ⟨by rfl, ?ys8⟩) (by assumption) ?rs8
    case ys8 => (intro wq hSw; (try dsimp only at hSw); go_simp; try with_reducible rfl)
    simp only [Act.put, List.setIfInBounds_toArray, List.set_cons_zero, List.set_cons_succ]
    refine wpAnyH_take (i := 9) (oi := { dst := some 15, op := Go.Op.load 9 (Go.Operand.tmp 14), type := 9, pos := "address.go:16", after := #[{ on := 8, ground := Go.Ground.data }, { on := 6, ground := Go.Ground.guard }], guard := some (6, false) }) (v := ?vs9) rfl (by kernel_rfl) (by kernel_rfl) (by kernel_rfl) (fun _ _ _ h => h) (Or.inl ⟨by rfl, ?ys9⟩) (by assumption) ?rs9
    case ys9 => (intro wq hSw; (try dsimp only at hSw); go_simp; try with_reducible rfl)
    simp only [Act.put, List.setIfInBounds_toArray, List.set_cons_zero, List.set_cons_succ]
    refine wpAnyH_take (i := 10) (oi := { dst := some 16, op := Go.Op.call { callee := Go.Callee.builtin Go.Builtin.len, args := #[Go.Operand.tmp 15], argTypes := #[9] }, type := 3, pos := "address.go:16", after := #[{ on := 9, ground := Go.Ground.data }, { on := 6, ground := Go.Ground.guard }], guard := some (6, false) }) (v := ?vs10) rfl (by kernel_rfl) (by kernel_rfl) (by kernel_rfl) (fun _ _ _ h => h) (Or.inl ⟨by rfl, ?ys10⟩) (by assumption) ?rs10
    case ys10 => (intro wq hSw; (try dsimp only at hSw); go_simp; try with_reducible rfl)
    simp only [Act.put, List.setIfInBounds_toArray, List.set_cons_zero, List.set_cons_succ]
    refine wpAnyH_take (i := 11) (oi := { dst := some 17, op := Go.Op.slice 9 (Go.Operand.tmp 13) none (some (Go.Operand.tmp 16)) none, type := 9, pos := "address.go:16", after := #[{ on := 7, ground := Go.Ground.data }, { on := 10, ground := Go.Ground.data }, { on := 6, ground := Go.Ground.guard }], guard := some (6, false) }) (v := ?vs11) rfl (by kernel_rfl) (by kernel_rfl) (by kernel_rfl) (fun _ _ _ h => h) (Or.inl ⟨by rfl, ?ys11⟩) (by assumption) ?rs11
    case ys11 => (intro wq hSw; (try dsimp only at hSw); go_simp; try with_reducible rfl)
    simp only [Act.put, List.setIfInBounds_toArray, List.set_cons_zero, List.set_cons_succ]
    refine wpAnyH_take (i := 13) (oi := { dst := some 19, op := Go.Op.fieldAddr 44 (Go.Operand.tmp 2) 0, type := 0, pos := "address.go:16", after := #[{ on := 6, ground := Go.Ground.guard }], guard := some (6, false) }) (v := ?vs13) rfl (by kernel_rfl) (by kernel_rfl) (by kernel_rfl) (fun _ _ _ h => h) (Or.inl ⟨by rfl, ?ys13⟩) (by assumption) ?rs13
    case ys13 => (intro wq hSw; (try dsimp only at hSw); go_simp; try with_reducible rfl)
    simp only [Act.put, List.setIfInBounds_toArray, List.set_cons_zero, List.set_cons_succ]
    refine wpAnyH_take (i := 14) (oi := { dst := some 20, op := Go.Op.load 9 (Go.Operand.tmp 19), type := 9, pos := "address.go:16", after := #[{ on := 13, ground := Go.Ground.data }, { on := 6, ground := Go.Ground.guard }], guard := some (6, false) }) (v := ?vs14) rfl (by kernel_rfl) (by kernel_rfl) (by kernel_rfl) (fun _ _ _ h => h) (Or.inl ⟨by rfl, ?ys14⟩) (by assumption) ?rs14
    case ys14 => (intro wq hSw; (try dsimp only at hSw); go_simp; try with_reducible rfl)
    simp only [Act.put, List.setIfInBounds_toArray, List.set_cons_zero, List.set_cons_succ]
    refine wpAnyH_ready (rs := [12]) (by kernel_rfl) (by simp) (AllReadyH.cons (o := { dst := some 18, op := Go.Op.call { callee := Go.Callee.value (Go.Operand.func 34), args := #[Go.Operand.tmp 17], argTypes := #[9] }, type := 9, pos := "address.go:16", after := #[{ on := 11, ground := Go.Ground.data }, { on := 6, ground := Go.Ground.chain }, { on := 6, ground := Go.Ground.guard }], guard := some (6, false) }) rfl (fun K hK => ?_) AllReadyH.nil)
    go_simp
    go_at_call 34; refine (HL _).mono ?_
    rintro e y1 ⟨rfl, q1⟩
    have Q1 := Lib.hid (KD.out.trans q1)
    clear q1
    refine Shut.out hK _ _ ((B0.out.kept Q1.out).cells.1) (fun hSb => ?_)
    clear hK K
    try simp only [Act.put, List.setIfInBounds_toArray, List.set_cons_zero, List.set_cons_succ]
    refine wpAnyH_take (i := 15) (oi := { dst := some 21, op := Go.Op.binOp Go.BinOp.neq 9 (Go.Operand.tmp 18) (Go.Operand.tmp 20) 9, type := 4, pos := "address.go:16", after := #[{ on := 12, ground := Go.Ground.data }, { on := 14, ground := Go.Ground.data }, { on := 6, ground := Go.Ground.guard }], guard := some (6, false) }) (v := ?vs15) rfl (by kernel_rfl) (by kernel_rfl) (by kernel_rfl) (fun _ _ _ h => h) (Or.inl ⟨by rfl, ?ys15⟩) (by assumption) ?rs15
    case ys15 => (intro wq hSw; (try dsimp only at hSw); go_simp; try with_reducible rfl)
    simp only [Act.put, List.setIfInBounds_toArray, List.set_cons_zero, List.set_cons_succ]
    refine wpAnyH_take (i := 16) (oi := { dst := some 22, op := Go.Op.pick (Go.Operand.tmp 12) (Go.Operand.const (Go.Value.bool true)) (Go.Operand.tmp 21), type := 4, pos := "address.go:16", after := #[{ on := 6, ground := Go.Ground.data }, { on := 15, ground := Go.Ground.data }], guard := none }) (v := ?vs16) rfl (by kernel_rfl) (by kernel_rfl) (by kernel_rfl) (fun _ _ _ h => h) (Or.inl ⟨by rfl, ?ys16⟩) (by assumption) ?rs16
    case ys16 => (intro wq hSw; (try dsimp only at hSw); go_simp; try with_reducible rfl)
    simp only [Act.put, List.setIfInBounds_toArray, List.set_cons_zero, List.set_cons_succ]
    refine wpAnyH_done (by kernel_rfl) ?_ _
    have B2 := Lib.hid (B0.out.kept Q1.out)
    have K2 := Lib.hid (K0.out.trans Q1.out)
    clear hSb hS0 Q1 KD WB
    obtain ⟨c0, c1⟩ := B2.out.cells
    go_wp2
    go_ret2
    exact ⟨rfl, K2.out⟩
  | false =>
    have hbe : lo (t.take s.length) ≠ s := fun q => by
      unfold begins at hb
      rw [decide_eq_true (by omega), Bool.true_and, q] at hb
      simp at hb
    have hc : cutT s t = [] := by unfold cutT; rw [hb]; rfl
    have hbs : ((ByteArray.mk (lo (t.take s.length)).toArray) != (ByteArray.mk s.toArray)) = true := by
      rw [bne, ba_beq, decide_eq_false hbe]; rfl
    have hbl : (lo (t.take s.length) == s) = false := by rw [beq_eq_false_iff_ne]; exact hbe
    rw [hc]
    clear hbe hb hlt hc
    generalize lo (t.take s.length) = x at *
    generalize t.take s.length = y at *
    generalize t.drop s.length = z at *
    go_enter Tryd.func23, Tryd.ntmps23
    go_upto_region 1 with (fail)
    generalize w.alloc (.cells #[.string ⟨s.toArray⟩, .string ⟨p.toArray⟩] 44) = x0 at *
    obtain ⟨c0, c1⟩ := B0.out.cells
    have KD := Lib.hid ((Kept.refl x0).drew)
    have WB := Lib.hid (B0.out.kept KD.out)
    clear c0 c1
    refine wp_region_held_drew (S := (fun y => y.cell? ⟨w.heap.size, 0, none⟩ = some (.string ⟨s.toArray⟩))) (by kernel_rfl) (WB.out.cells.1) (fun hS0 => ?_)
    refine wpAnyH_take (i := 0) (oi := { dst := some 6, op := Go.Op.move (Go.Operand.tmp 1), type := 9, pos := "address.go:16", after := #[], guard := none }) (v := ?vu0) rfl (by kernel_rfl) (by kernel_rfl) (by kernel_rfl) (fun _ _ _ h => h) (Or.inl ⟨by rfl, ?yu0⟩) (by assumption) ?ru0
    case yu0 => (intro wq hSw; (try dsimp only at hSw); go_simp; try with_reducible rfl)
    simp only [Act.put, List.setIfInBounds_toArray, List.set_cons_zero, List.set_cons_succ]
    refine wpAnyH_take (i := 1) (oi := { dst := some 7, op := Go.Op.call { callee := Go.Callee.builtin Go.Builtin.len, args := #[Go.Operand.tmp 6], argTypes := #[9] }, type := 3, pos := "address.go:16", after := #[{ on := 0, ground := Go.Ground.data }], guard := none }) (v := ?vu1) rfl (by kernel_rfl) (by kernel_rfl) (by kernel_rfl) (fun _ _ _ h => h) (Or.inl ⟨by rfl, ?yu1⟩) (by assumption) ?ru1
    case yu1 => (intro wq hSw; (try dsimp only at hSw); go_simp; try with_reducible rfl)
    simp only [Act.put, List.setIfInBounds_toArray, List.set_cons_zero, List.set_cons_succ]
    refine wpAnyH_take (i := 2) (oi := { dst := some 8, op := Go.Op.fieldAddr 44 (Go.Operand.tmp 2) 0, type := 0, pos := "address.go:16", after := #[], guard := none }) (v := ?vu2) rfl (by kernel_rfl) (by kernel_rfl) (by kernel_rfl) (fun _ _ _ h => h) (Or.inl ⟨by rfl, ?yu2⟩) (by assumption) ?ru2
    case yu2 => (intro wq hSw; (try dsimp only at hSw); go_simp; try with_reducible rfl)
    simp only [Act.put, List.setIfInBounds_toArray, List.set_cons_zero, List.set_cons_succ]
    refine wpAnyH_take (i := 3) (oi := { dst := some 9, op := Go.Op.load 9 (Go.Operand.tmp 8), type := 9, pos := "address.go:16", after := #[{ on := 2, ground := Go.Ground.data }], guard := none }) (v := ?vu3) rfl (by kernel_rfl) (by kernel_rfl) (by kernel_rfl) (fun _ _ _ h => h) (Or.inl ⟨by rfl, ?yu3⟩) (by assumption) ?ru3
    case yu3 => (intro wq hSw; (try dsimp only at hSw); go_simp; try with_reducible rfl)
    simp only [Act.put, List.setIfInBounds_toArray, List.set_cons_zero, List.set_cons_succ]
    refine wpAnyH_take (i := 4) (oi := { dst := some 10, op := Go.Op.call { callee := Go.Callee.builtin Go.Builtin.len, args := #[Go.Operand.tmp 9], argTypes := #[9] }, type := 3, pos := "address.go:16", after := #[{ on := 3, ground := Go.Ground.data }], guard := none }) (v := ?vu4) rfl (by kernel_rfl) (by kernel_rfl) (by kernel_rfl) (fun _ _ _ h => h) (Or.inl ⟨by rfl, ?yu4⟩) (by assumption) ?ru4
    case yu4 => (intro wq hSw; (try dsimp only at hSw); go_simp; try with_reducible rfl)
    simp only [Act.put, List.setIfInBounds_toArray, List.set_cons_zero, List.set_cons_succ]
    refine wpAnyH_take (i := 5) (oi := { dst := some 11, op := Go.Op.binOp Go.BinOp.lss 3 (Go.Operand.tmp 7) (Go.Operand.tmp 10) 3, type := 4, pos := "address.go:16", after := #[{ on := 1, ground := Go.Ground.data }, { on := 4, ground := Go.Ground.data }], guard := none }) (v := ?vu5) rfl (by kernel_rfl) (by kernel_rfl) (by kernel_rfl) (fun _ _ _ h => h) (Or.inl ⟨by rfl, ?yu5⟩) (by assumption) ?ru5
    case yu5 => (intro wq hSw; (try dsimp only at hSw); go_simp; try with_reducible rfl)
    simp only [Act.put, List.setIfInBounds_toArray, List.set_cons_zero, List.set_cons_succ]
    refine wpAnyH_take (i := 6) (oi := { dst := some 12, op := Go.Op.move (Go.Operand.tmp 11), type := 4, pos := "address.go:16", after := #[{ on := 5, ground := Go.Ground.data }], guard := none }) (v := ?vu6) rfl (by kernel_rfl) (by kernel_rfl) (by kernel_rfl) (fun _ _ _ h => h) (Or.inl ⟨by rfl, ?yu6⟩) (by assumption) ?ru6
    case yu6 => (intro wq hSw; (try dsimp only at hSw); go_simp; try with_reducible rfl)
    simp only [Act.put, List.setIfInBounds_toArray, List.set_cons_zero, List.set_cons_succ]
    refine wpAnyH_take (i := 7) (oi := { dst := some 13, op := Go.Op.move (Go.Operand.tmp 1), type := 9, pos := "address.go:16", after := #[{ on := 6, ground := Go.Ground.guard }], guard := some (6, false) }) (v := ?vu7) rfl (by kernel_rfl) (by kernel_rfl) (by kernel_rfl) (fun _ _ _ h => h) (Or.inl ⟨by rfl, ?yu7⟩) (by assumption) ?ru7
    case yu7 => (intro wq hSw; (try dsimp only at hSw); go_simp; try with_reducible rfl)
    simp only [Act.put, List.setIfInBounds_toArray, List.set_cons_zero, List.set_cons_succ]
    refine wpAnyH_take (i := 8) (oi := { dst := some 14, op := Go.Op.fieldAddr 44 (Go.Operand.tmp 2) 0, type := 0, pos := "address.go:16", after := #[{ on := 6, ground := Go.Ground.guard }], guard := some (6, false) }) (v := ?vu8) rfl (by kernel_rfl) (by kernel_rfl) (by kernel_rfl) (fun _ _ _ h => h) (Or.inl ⟨by rfl, ?yu8⟩) (by assumption) ?ru8
    case yu8 => (intro wq hSw; (try dsimp only at hSw); go_simp; try with_reducible rfl)
    simp only [Act.put, List.setIfInBounds_toArray, List.set_cons_zero, List.set_cons_succ]
    refine wpAnyH_take (i := 9) (oi := { dst := some 15, op := Go.Op.load 9 (Go.Operand.tmp 14), type := 9, pos := "address.go:16", after := #[{ on := 8, ground := Go.Ground.data }, { on := 6, ground := Go.Ground.guard }], guard := some (6, false) }) (v := ?vu9) rfl (by kernel_rfl) (by kernel_rfl) (by kernel_rfl) (fun _ _ _ h => h) (Or.inl ⟨by rfl, ?yu9⟩) (by assumption) ?ru9
    case yu9 => (intro wq hSw; (try dsimp only at hSw); go_simp; try with_reducible rfl)
    simp only [Act.put, List.setIfInBounds_toArray, List.set_cons_zero, List.set_cons_succ]
    refine wpAnyH_take (i := 10) (oi := { dst := some 16, op := Go.Op.call { callee := Go.Callee.builtin Go.Builtin.len, args := #[Go.Operand.tmp 15], argTypes := #[9] }, type := 3, pos := "address.go:16", after := #[{ on := 9, ground := Go.Ground.data }, { on := 6, ground := Go.Ground.guard }], guard := some (6, false) }) (v := ?vu10) rfl (by kernel_rfl) (by kernel_rfl) (by kernel_rfl) (fun _ _ _ h => h) (Or.inl ⟨by rfl, ?yu10⟩) (by assumption) ?ru10
    case yu10 => (intro wq hSw; (try dsimp only at hSw); go_simp; try with_reducible rfl)
    simp only [Act.put, List.setIfInBounds_toArray, List.set_cons_zero, List.set_cons_succ]
    refine wpAnyH_take (i := 11) (oi := { dst := some 17, op := Go.Op.slice 9 (Go.Operand.tmp 13) none (some (Go.Operand.tmp 16)) none, type := 9, pos := "address.go:16", after := #[{ on := 7, ground := Go.Ground.data }, { on := 10, ground := Go.Ground.data }, { on := 6, ground := Go.Ground.guard }], guard := some (6, false) }) (v := ?vu11) rfl (by kernel_rfl) (by kernel_rfl) (by kernel_rfl) (fun _ _ _ h => h) (Or.inl ⟨by rfl, ?yu11⟩) (by assumption) ?ru11
    case yu11 => (intro wq hSw; (try dsimp only at hSw); go_simp; try with_reducible rfl)
    simp only [Act.put, List.setIfInBounds_toArray, List.set_cons_zero, List.set_cons_succ]
    refine wpAnyH_take (i := 13) (oi := { dst := some 19, op := Go.Op.fieldAddr 44 (Go.Operand.tmp 2) 0, type := 0, pos := "address.go:16", after := #[{ on := 6, ground := Go.Ground.guard }], guard := some (6, false) }) (v := ?vu13) rfl (by kernel_rfl) (by kernel_rfl) (by kernel_rfl) (fun _ _ _ h => h) (Or.inl ⟨by rfl, ?yu13⟩) (by assumption) ?ru13
    case yu13 => (intro wq hSw; (try dsimp only at hSw); go_simp; try with_reducible rfl)
    simp only [Act.put, List.setIfInBounds_toArray, List.set_cons_zero, List.set_cons_succ]
    refine wpAnyH_take (i := 14) (oi := { dst := some 20, op := Go.Op.load 9 (Go.Operand.tmp 19), type := 9, pos := "address.go:16", after := #[{ on := 13, ground := Go.Ground.data }, { on := 6, ground := Go.Ground.guard }], guard := some (6, false) }) (v := ?vu14) rfl (by kernel_rfl) (by kernel_rfl) (by kernel_rfl) (fun _ _ _ h => h) (Or.inl ⟨by rfl, ?yu14⟩) (by assumption) ?ru14
    case yu14 => (intro wq hSw; (try dsimp only at hSw); go_simp; try with_reducible rfl)
    simp only [Act.put, List.setIfInBounds_toArray, List.set_cons_zero, List.set_cons_succ]
    refine wpAnyH_ready (rs := [12]) (by kernel_rfl) (by simp) (AllReadyH.cons (o := { dst := some 18, op := Go.Op.call { callee := Go.Callee.value (Go.Operand.func 34), args := #[Go.Operand.tmp 17], argTypes := #[9] }, type := 9, pos := "address.go:16", after := #[{ on := 11, ground := Go.Ground.data }, { on := 6, ground := Go.Ground.chain }, { on := 6, ground := Go.Ground.guard }], guard := some (6, false) }) rfl (fun K hK => ?_) AllReadyH.nil)
    go_simp
    go_at_call 34; refine (HL _).mono ?_
    rintro e y1 ⟨rfl, q1⟩
    have Q1 := Lib.hid (KD.out.trans q1)
    clear q1
    refine Shut.out hK _ _ ((B0.out.kept Q1.out).cells.1) (fun hSb => ?_)
    clear hK K
    try simp only [Act.put, List.setIfInBounds_toArray, List.set_cons_zero, List.set_cons_succ]
    refine wpAnyH_take (i := 15) (oi := { dst := some 21, op := Go.Op.binOp Go.BinOp.neq 9 (Go.Operand.tmp 18) (Go.Operand.tmp 20) 9, type := 4, pos := "address.go:16", after := #[{ on := 12, ground := Go.Ground.data }, { on := 14, ground := Go.Ground.data }, { on := 6, ground := Go.Ground.guard }], guard := some (6, false) }) (v := ?vu15) rfl (by kernel_rfl) (by kernel_rfl) (by kernel_rfl) (fun _ _ _ h => h) (Or.inl ⟨by rfl, ?yu15⟩) (by assumption) ?ru15
    case yu15 => (intro wq hSw; (try dsimp only at hSw); go_simp; try with_reducible rfl)
    simp only [Act.put, List.setIfInBounds_toArray, List.set_cons_zero, List.set_cons_succ]
    refine wpAnyH_take (i := 16) (oi := { dst := some 22, op := Go.Op.pick (Go.Operand.tmp 12) (Go.Operand.const (Go.Value.bool true)) (Go.Operand.tmp 21), type := 4, pos := "address.go:16", after := #[{ on := 6, ground := Go.Ground.data }, { on := 15, ground := Go.Ground.data }], guard := none }) (v := ?vu16) rfl (by kernel_rfl) (by kernel_rfl) (by kernel_rfl) (fun _ _ _ h => h) (Or.inl ⟨by rfl, ?yu16⟩) (by assumption) ?ru16
    case yu16 => (intro wq hSw; (try dsimp only at hSw); go_simp; try with_reducible rfl)
    simp only [Act.put, List.setIfInBounds_toArray, List.set_cons_zero, List.set_cons_succ]
    refine wpAnyH_done (by kernel_rfl) ?_ _
    have B2 := Lib.hid (B0.out.kept Q1.out)
    have K2 := Lib.hid (K0.out.trans Q1.out)
    clear hSb hS0 Q1 KD WB
    obtain ⟨c0, c1⟩ := B2.out.cells
    go_wp2
    go_ret2
    exact ⟨rfl, K2.out⟩
end Go.Proofs.YtpkkpjonlogliaaDoor
