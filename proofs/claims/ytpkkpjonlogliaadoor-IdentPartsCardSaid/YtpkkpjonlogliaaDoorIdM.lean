/- Package ident: an address in its usual form. -/
import Derived.Test.YtpkkpjonlogliaaDoorIdW
set_option linter.unusedSimpArgs false
set_option linter.unusedVariables false
namespace Go.Proofs.YtpkkpjonlogliaaDoor
open Go.ChangeShapes Go.WideShapes Go.ChangeAt Go.RowKit
open En Idn
theorem Env.webs {w : World} (h : Env w) : w.cell? ⟨0, 0, none⟩ = some (.string ⟨#[104, 116, 116, 112, 58, 47, 47]⟩) ∧ w.cell? ⟨0, 1, none⟩ = some (.string ⟨#[58, 56, 48]⟩) ∧ w.cell? ⟨0, 2, none⟩ = some (.string ⟨#[104, 116, 116, 112, 115, 58, 47, 47]⟩) ∧ w.cell? ⟨0, 3, none⟩ = some (.string ⟨#[58, 52, 52, 51]⟩) :=
  ⟨h.2.1 0 _ rfl, h.2.1 1 _ rfl, h.2.1 2 _ rfl, h.2.1 3 _ rfl⟩
theorem cutT_yes {s t : List UInt8} (h : begins t s = true) : cutT s t = t.drop s.length := by unfold cutT; rw [if_pos h]
theorem cutT_len (s t : List UInt8) : (cutT s t).length ≤ t.length := by
  unfold cutT
  split
  · rw [List.length_drop]; omega
  · simp
def webA : Value := .agg #[.string ⟨#[104, 116, 116, 112, 58, 47, 47]⟩, .string ⟨#[58, 56, 48]⟩, .string ⟨#[104, 116, 116, 112, 115, 58, 47, 47]⟩, .string ⟨#[58, 52, 52, 51]⟩]
theorem web_at0 (W : World) : (Instr.index 45 (.agg #[.string ⟨#[104, 116, 116, 112, 58, 47, 47]⟩, .string ⟨#[58, 56, 48]⟩, .string ⟨#[104, 116, 116, 112, 115, 58, 47, 47]⟩, .string ⟨#[58, 52, 52, 51]⟩]) (.int .i64 0)).run Tryd.prog W = .ok (.agg #[.string ⟨#[104, 116, 116, 112, 58, 47, 47]⟩, .string ⟨#[58, 56, 48]⟩]) W := by kernel_rfl
theorem web_at1 (W : World) : (Instr.index 45 (.agg #[.string ⟨#[104, 116, 116, 112, 58, 47, 47]⟩, .string ⟨#[58, 56, 48]⟩, .string ⟨#[104, 116, 116, 112, 115, 58, 47, 47]⟩, .string ⟨#[58, 52, 52, 51]⟩]) (.int .i64 1)).run Tryd.prog W = .ok (.agg #[.string ⟨#[104, 116, 116, 112, 115, 58, 47, 47]⟩, .string ⟨#[58, 52, 52, 51]⟩]) W := by kernel_rfl
set_option maxRecDepth 100000 in
set_option maxHeartbeats 8000000 in
theorem norm_any (l : List UInt8) (w : World) (hE : Env w) (hl : l.length ≤ 100000) : Calls Tryd.prog 15 #[.string ⟨l.toArray⟩] w fun e w' => e = .returned (.string ⟨(norm l).toArray⟩) ∧ Kept w w' := by
  have htl := tr_len l
  have HN := Lib.hid (show norm l = normT (tr l) from rfl)
  have HT := Lib.hid (trim_any l w hE (by omega))
  have HE := Lib.hid hE
  have wa0 := web_at0
  have wa1 := web_at1
  clear hE
  generalize tr l = t at *
  generalize norm l = z at *
  go_enter Tryd.func15, Tryd.ntmps15
  go_wp2_with fail
  refine HT.out.mono ?_
  rintro e w1 ⟨rfl, k1⟩
  have K1 := Lib.hid k1
  have E1 := Lib.hid (HE.out.kept k1)
  obtain ⟨g0, g1, g2, g3⟩ := E1.out.webs
  clear k1 HT
  go_wp2_with fail
  clear g0 g1 g2 g3
  refine wp_loop_rounds 3 ?_
  rw [rounds_succ]
  have B1 := Lib.hid (Wb.new w1 sch1 port1)
  have q1 := (Kept.refl w1).alloc (.cells #[.string ⟨sch1.toArray⟩, .string ⟨port1.toArray⟩] 44)
  have KB1 := Lib.hid (K1.out.trans q1)
  have EB1 := Lib.hid (E1.out.kept q1)
  clear q1
  go_upto_region 5 with (fail)
  generalize hbk1 : w1.heap.size = b1 at *
  rw [show w1.alloc (.cells #[.string ⟨#[104, 116, 116, 112, 58, 47, 47]⟩, .string ⟨#[58, 56, 48]⟩] 44) = w1.alloc (.cells #[.string ⟨sch1.toArray⟩, .string ⟨port1.toArray⟩] 44) from rfl]
  generalize w1.alloc (.cells #[.string ⟨sch1.toArray⟩, .string ⟨port1.toArray⟩] 44) = x1 at *
  clear hbk1
  obtain ⟨c0, c1⟩ := B1.out.cells
  go_wp2_with fail
  refine (cut_any sch1 port1 t _ (by omega) (by decide)).mono ?_
  rintro e y1 ⟨rfl, p1⟩
  have KY1 := Lib.hid (KB1.out.trans p1)
  have EY1 := Lib.hid (EB1.out.kept p1)
  have BY1 := Lib.hid (B1.out.kept p1)
  clear p1 c0 c1 B1 KB1 EB1
  cases hb1 : begins t sch1 with
  | true =>
    have HZ := Lib.hid (show z = sch1 ++ hostS port1 (cutT sch1 t) ++ restS (cutT sch1 t) by rw [HN.out, cutT_yes hb1]; unfold normT; rw [if_pos hb1]; rfl)
    have hcl := cutT_len sch1 t
    have HO := Lib.hid (fun w => host_any sch1 port1 (cutT sch1 t) w (by decide) (by omega) (by decide))
    have HR := Lib.hid (fun w hE => rest_any (cutT sch1 t) w hE (by omega))
    have l1 : (hostS port1 (cutT sch1 t)).length ≤ 200000 := by have := hostS_len port1 (cutT sch1 t); omega
    have l2 : (restS (cutT sch1 t)).length ≤ 200001 := by have := restS_len (cutT sch1 t); omega
    have l3 : sch1.length ≤ 8 := by decide
    clear hb1 hcl HN
    have l4 : ¬ 9223372036854775807 < sch1.length + (hostS port1 (cutT sch1 t)).length := by omega
    have l5 : ¬ 9223372036854775807 < sch1.length + (hostS port1 (cutT sch1 t)).length + (restS (cutT sch1 t)).length := by omega
    generalize hostS port1 (cutT sch1 t) = ho at *
    generalize restS (cutT sch1 t) = re at *
    generalize cutT sch1 t = ad at *
    go_upto_region 7 with (fail)
    have KD := Lib.hid ((Kept.refl y1).drew)
    refine wp_region_held_drew (S := (fun y => y.cell? ⟨b1, 0, none⟩ = some (.string ⟨sch1.toArray⟩) ∧ y.cell? ⟨b1, 1, none⟩ = some (.string ⟨port1.toArray⟩))) (by kernel_rfl) ((BY1.out.kept KD.out).cells) (fun hS0 => ?_)
    refine wpAnyH_take (i := 0) (oi := { dst := some 21, op := Go.Op.fieldAddr 44 (Go.Operand.tmp 5) 0, type := 0, pos := "ident.go:14", after := #[], guard := none }) (v := ?vs10) rfl (by kernel_rfl) (by kernel_rfl) (by kernel_rfl) (fun _ _ _ h => h) (Or.inl ⟨by rfl, ?ys10⟩) (by assumption) ?rs10
    case ys10 => (intro wq hSw; (try dsimp only at hSw); go_simp; try with_reducible rfl)
    simp only [Act.put, List.setIfInBounds_toArray, List.set_cons_zero, List.set_cons_succ]
    refine wpAnyH_take (i := 1) (oi := { dst := some 22, op := Go.Op.load 9 (Go.Operand.tmp 21), type := 9, pos := "ident.go:14", after := #[{ on := 0, ground := Go.Ground.data }], guard := none }) (v := ?vs11) rfl (by kernel_rfl) (by kernel_rfl) (by kernel_rfl) (fun _ _ _ h => h) (Or.inl ⟨by rfl, ?ys11⟩) (by assumption) ?rs11
    case ys11 => (intro wq hSw; (try dsimp only at hSw); go_simp; try with_reducible rfl)
    simp only [Act.put, List.setIfInBounds_toArray, List.set_cons_zero, List.set_cons_succ]
    refine wpAnyH_take (i := 2) (oi := { dst := some 23, op := Go.Op.load 44 (Go.Operand.tmp 5), type := 44, pos := "ident.go:14", after := #[], guard := none }) (v := ?vs12) rfl (by kernel_rfl) (by kernel_rfl) (by kernel_rfl) (fun _ _ _ h => h) (Or.inl ⟨by rfl, ?ys12⟩) (by assumption) ?rs12
    case ys12 => (intro wq hSw; (try dsimp only at hSw); go_simp; try with_reducible rfl)
    simp only [Act.put, List.setIfInBounds_toArray, List.set_cons_zero, List.set_cons_succ]
    refine wpAnyH_take (i := 3) (oi := { dst := some 24, op := Go.Op.move (Go.Operand.tmp 6), type := 9, pos := "ident.go:14", after := #[], guard := none }) (v := ?vs13) rfl (by kernel_rfl) (by kernel_rfl) (by kernel_rfl) (fun _ _ _ h => h) (Or.inl ⟨by rfl, ?ys13⟩) (by assumption) ?rs13
    case ys13 => (intro wq hSw; (try dsimp only at hSw); go_simp; try with_reducible rfl)
    simp only [Act.put, List.setIfInBounds_toArray, List.set_cons_zero, List.set_cons_succ]
    refine wpAnyH_take (i := 6) (oi := { dst := some 27, op := Go.Op.move (Go.Operand.tmp 6), type := 9, pos := "ident.go:14", after := #[], guard := none }) (v := ?vs16) rfl (by kernel_rfl) (by kernel_rfl) (by kernel_rfl) (fun _ _ _ h => h) (Or.inl ⟨by rfl, ?ys16⟩) (by assumption) ?rs16
    case ys16 => (intro wq hSw; (try dsimp only at hSw); go_simp; try with_reducible rfl)
    simp only [Act.put, List.setIfInBounds_toArray, List.set_cons_zero, List.set_cons_succ]
    refine wpAnyH_ready (rs := [4]) (by kernel_rfl) (by simp) (AllReadyH.cons (o := { dst := some 25, op := Go.Op.call { callee := Go.Callee.value (Go.Operand.func 24), args := #[Go.Operand.tmp 23, Go.Operand.tmp 24], argTypes := #[44, 9] }, type := 9, pos := "ident.go:14", after := #[{ on := 2, ground := Go.Ground.data }, { on := 3, ground := Go.Ground.data }], guard := none }) rfl (fun K hK => ?_) AllReadyH.nil)
    go_simp
    go_at_call 24; refine (HO.out _).mono ?_
    rintro e v1 ⟨rfl, q1⟩
    have Q1 := Lib.hid (KD.out.trans q1)
    clear q1
    refine Shut.out hK _ _ ((BY1.out.kept Q1.out).cells) (fun hSb => ?_)
    clear hK K
    try simp only [Act.put, List.setIfInBounds_toArray, List.set_cons_zero, List.set_cons_succ]
    refine wpAnyH_take (i := 5) (oi := { dst := some 26, op := Go.Op.binOp Go.BinOp.add 9 (Go.Operand.tmp 22) (Go.Operand.tmp 25) 9, type := 9, pos := "ident.go:14", after := #[{ on := 1, ground := Go.Ground.data }, { on := 4, ground := Go.Ground.data }], guard := none }) (v := ?vs15) rfl (by kernel_rfl) (by kernel_rfl) (by kernel_rfl) (fun _ _ _ h => h) (Or.inl ⟨by rfl, ?ys15⟩) (by assumption) ?rs15
    case ys15 => (intro wq hSw; (try dsimp only at hSw); go_simp; try with_reducible rfl)
    simp only [Act.put, List.setIfInBounds_toArray, List.set_cons_zero, List.set_cons_succ]
    refine wpAnyH_ready (rs := [7]) (by kernel_rfl) (by simp) (AllReadyH.cons (o := { dst := some 28, op := Go.Op.call { callee := Go.Callee.value (Go.Operand.func 25), args := #[Go.Operand.tmp 27], argTypes := #[9] }, type := 9, pos := "ident.go:14", after := #[{ on := 6, ground := Go.Ground.data }, { on := 4, ground := Go.Ground.chain }], guard := none }) rfl (fun K hK => ?_) AllReadyH.nil)
    go_simp
    go_at_call 25; refine (HR.out _ (EY1.out.kept Q1.out)).mono ?_
    rintro e v2 ⟨rfl, q2⟩
    have Q2 := Lib.hid (Q1.out.trans q2)
    clear q2
    refine Shut.out hK _ _ ((BY1.out.kept Q2.out).cells) (fun hSb => ?_)
    clear hK K
    try simp only [Act.put, List.setIfInBounds_toArray, List.set_cons_zero, List.set_cons_succ]
    refine wpAnyH_take (i := 8) (oi := { dst := some 29, op := Go.Op.binOp Go.BinOp.add 9 (Go.Operand.tmp 26) (Go.Operand.tmp 28) 9, type := 9, pos := "ident.go:14", after := #[{ on := 5, ground := Go.Ground.data }, { on := 7, ground := Go.Ground.data }], guard := none }) (v := ?vs18) rfl (by kernel_rfl) (by kernel_rfl) (by kernel_rfl) (fun _ _ _ h => h) (Or.inl ⟨by rfl, ?ys18⟩) (by assumption) ?rs18
    case ys18 => (intro wq hSw; (try dsimp only at hSw); go_simp; try with_reducible rfl)
    simp only [Act.put, List.setIfInBounds_toArray, List.set_cons_zero, List.set_cons_succ]
    refine wpAnyH_take (i := 9) (oi := { dst := some 2, op := Go.Op.assign (Go.Operand.tmp 29), type := 9, pos := "ident.go:14", after := #[{ on := 8, ground := Go.Ground.data }, { on := 7, ground := Go.Ground.chain }, { on := 0, ground := Go.Ground.phase }, { on := 1, ground := Go.Ground.phase }, { on := 2, ground := Go.Ground.phase }, { on := 3, ground := Go.Ground.phase }, { on := 4, ground := Go.Ground.phase }, { on := 5, ground := Go.Ground.phase }, { on := 6, ground := Go.Ground.phase }, { on := 7, ground := Go.Ground.phase }, { on := 8, ground := Go.Ground.phase }], guard := none }) (v := ?vs19) rfl (by kernel_rfl) (by kernel_rfl) (by kernel_rfl) (fun _ _ _ h => h) (Or.inl ⟨by rfl, ?ys19⟩) (by assumption) ?rs19
    case ys19 => (intro wq hSw; (try dsimp only at hSw); go_simp; try with_reducible rfl)
    simp only [Act.put, List.setIfInBounds_toArray, List.set_cons_zero, List.set_cons_succ]
    refine wpAnyH_done (by kernel_rfl) ?_ _
    have KF := Lib.hid (KY1.out.trans Q2.out)
    clear hSb hS0 Q1 Q2 KD HO HR
    go_wp2
    go_ret
    exact ⟨by rw [HZ.out]; show Ending.returned (Value.string (⟨sch1.toArray⟩ ++ ⟨ho.toArray⟩ ++ ⟨re.toArray⟩)) = _; rw [str_app, str_app], KF.out⟩
  | false =>
    clear BY1
    go_wp2_with fail
    rw [rounds_succ]
    have B2 := Lib.hid (Wb.new y1 sch2 port2)
    have q2 := (Kept.refl y1).alloc (.cells #[.string ⟨sch2.toArray⟩, .string ⟨port2.toArray⟩] 44)
    have KB2 := Lib.hid (KY1.out.trans q2)
    have EB2 := Lib.hid (EY1.out.kept q2)
    clear q2
    go_upto_region 5 with (fail)
    generalize hbk2 : y1.heap.size = b2 at *
    rw [show y1.alloc (.cells #[.string ⟨#[104, 116, 116, 112, 115, 58, 47, 47]⟩, .string ⟨#[58, 52, 52, 51]⟩] 44) = y1.alloc (.cells #[.string ⟨sch2.toArray⟩, .string ⟨port2.toArray⟩] 44) from rfl]
    generalize y1.alloc (.cells #[.string ⟨sch2.toArray⟩, .string ⟨port2.toArray⟩] 44) = x2 at *
    clear hbk2
    obtain ⟨c0, c1⟩ := B2.out.cells
    go_wp2_with fail
    refine (cut_any sch2 port2 t _ (by omega) (by decide)).mono ?_
    rintro e y2 ⟨rfl, p2⟩
    have KY2 := Lib.hid (KB2.out.trans p2)
    have EY2 := Lib.hid (EB2.out.kept p2)
    have BY2 := Lib.hid (B2.out.kept p2)
    clear p2 c0 c1 B2 KB2 EB2
    cases hb2 : begins t sch2 with
    | true =>
      have HZ := Lib.hid (show z = sch2 ++ hostS port2 (cutT sch2 t) ++ restS (cutT sch2 t) by rw [HN.out, cutT_yes hb2]; unfold normT; rw [hb1, if_neg (by decide), if_pos hb2]; rfl)
      have hcl := cutT_len sch2 t
      have HO := Lib.hid (fun w => host_any sch2 port2 (cutT sch2 t) w (by decide) (by omega) (by decide))
      have HR := Lib.hid (fun w hE => rest_any (cutT sch2 t) w hE (by omega))
      have l1 : (hostS port2 (cutT sch2 t)).length ≤ 200000 := by have := hostS_len port2 (cutT sch2 t); omega
      have l2 : (restS (cutT sch2 t)).length ≤ 200001 := by have := restS_len (cutT sch2 t); omega
      have l3 : sch2.length ≤ 8 := by decide
      clear hb1 hcl HN hb2
      have l4 : ¬ 9223372036854775807 < sch2.length + (hostS port2 (cutT sch2 t)).length := by omega
      have l5 : ¬ 9223372036854775807 < sch2.length + (hostS port2 (cutT sch2 t)).length + (restS (cutT sch2 t)).length := by omega
      generalize hostS port2 (cutT sch2 t) = ho at *
      generalize restS (cutT sch2 t) = re at *
      generalize cutT sch2 t = ad at *
      go_upto_region 7 with (fail)
      have KD := Lib.hid ((Kept.refl y2).drew)
      refine wp_region_held_drew (S := (fun y => y.cell? ⟨b2, 0, none⟩ = some (.string ⟨sch2.toArray⟩) ∧ y.cell? ⟨b2, 1, none⟩ = some (.string ⟨port2.toArray⟩))) (by kernel_rfl) ((BY2.out.kept KD.out).cells) (fun hS0 => ?_)
      refine wpAnyH_take (i := 0) (oi := { dst := some 21, op := Go.Op.fieldAddr 44 (Go.Operand.tmp 5) 0, type := 0, pos := "ident.go:14", after := #[], guard := none }) (v := ?vs20) rfl (by kernel_rfl) (by kernel_rfl) (by kernel_rfl) (fun _ _ _ h => h) (Or.inl ⟨by rfl, ?ys20⟩) (by assumption) ?rs20
      case ys20 => (intro wq hSw; (try dsimp only at hSw); go_simp; try with_reducible rfl)
      simp only [Act.put, List.setIfInBounds_toArray, List.set_cons_zero, List.set_cons_succ]
      refine wpAnyH_take (i := 1) (oi := { dst := some 22, op := Go.Op.load 9 (Go.Operand.tmp 21), type := 9, pos := "ident.go:14", after := #[{ on := 0, ground := Go.Ground.data }], guard := none }) (v := ?vs21) rfl (by kernel_rfl) (by kernel_rfl) (by kernel_rfl) (fun _ _ _ h => h) (Or.inl ⟨by rfl, ?ys21⟩) (by assumption) ?rs21
      case ys21 => (intro wq hSw; (try dsimp only at hSw); go_simp; try with_reducible rfl)
      simp only [Act.put, List.setIfInBounds_toArray, List.set_cons_zero, List.set_cons_succ]
      refine wpAnyH_take (i := 2) (oi := { dst := some 23, op := Go.Op.load 44 (Go.Operand.tmp 5), type := 44, pos := "ident.go:14", after := #[], guard := none }) (v := ?vs22) rfl (by kernel_rfl) (by kernel_rfl) (by kernel_rfl) (fun _ _ _ h => h) (Or.inl ⟨by rfl, ?ys22⟩) (by assumption) ?rs22
      case ys22 => (intro wq hSw; (try dsimp only at hSw); go_simp; try with_reducible rfl)
      simp only [Act.put, List.setIfInBounds_toArray, List.set_cons_zero, List.set_cons_succ]
      refine wpAnyH_take (i := 3) (oi := { dst := some 24, op := Go.Op.move (Go.Operand.tmp 6), type := 9, pos := "ident.go:14", after := #[], guard := none }) (v := ?vs23) rfl (by kernel_rfl) (by kernel_rfl) (by kernel_rfl) (fun _ _ _ h => h) (Or.inl ⟨by rfl, ?ys23⟩) (by assumption) ?rs23
      case ys23 => (intro wq hSw; (try dsimp only at hSw); go_simp; try with_reducible rfl)
      simp only [Act.put, List.setIfInBounds_toArray, List.set_cons_zero, List.set_cons_succ]
      refine wpAnyH_take (i := 6) (oi := { dst := some 27, op := Go.Op.move (Go.Operand.tmp 6), type := 9, pos := "ident.go:14", after := #[], guard := none }) (v := ?vs26) rfl (by kernel_rfl) (by kernel_rfl) (by kernel_rfl) (fun _ _ _ h => h) (Or.inl ⟨by rfl, ?ys26⟩) (by assumption) ?rs26
      case ys26 => (intro wq hSw; (try dsimp only at hSw); go_simp; try with_reducible rfl)
      simp only [Act.put, List.setIfInBounds_toArray, List.set_cons_zero, List.set_cons_succ]
      refine wpAnyH_ready (rs := [4]) (by kernel_rfl) (by simp) (AllReadyH.cons (o := { dst := some 25, op := Go.Op.call { callee := Go.Callee.value (Go.Operand.func 24), args := #[Go.Operand.tmp 23, Go.Operand.tmp 24], argTypes := #[44, 9] }, type := 9, pos := "ident.go:14", after := #[{ on := 2, ground := Go.Ground.data }, { on := 3, ground := Go.Ground.data }], guard := none }) rfl (fun K hK => ?_) AllReadyH.nil)
      go_simp
      go_at_call 24; refine (HO.out _).mono ?_
      rintro e v1 ⟨rfl, q1⟩
      have Q1 := Lib.hid (KD.out.trans q1)
      clear q1
      refine Shut.out hK _ _ ((BY2.out.kept Q1.out).cells) (fun hSb => ?_)
      clear hK K
      try simp only [Act.put, List.setIfInBounds_toArray, List.set_cons_zero, List.set_cons_succ]
      refine wpAnyH_take (i := 5) (oi := { dst := some 26, op := Go.Op.binOp Go.BinOp.add 9 (Go.Operand.tmp 22) (Go.Operand.tmp 25) 9, type := 9, pos := "ident.go:14", after := #[{ on := 1, ground := Go.Ground.data }, { on := 4, ground := Go.Ground.data }], guard := none }) (v := ?vs25) rfl (by kernel_rfl) (by kernel_rfl) (by kernel_rfl) (fun _ _ _ h => h) (Or.inl ⟨by rfl, ?ys25⟩) (by assumption) ?rs25
      case ys25 => (intro wq hSw; (try dsimp only at hSw); go_simp; try with_reducible rfl)
      simp only [Act.put, List.setIfInBounds_toArray, List.set_cons_zero, List.set_cons_succ]
      refine wpAnyH_ready (rs := [7]) (by kernel_rfl) (by simp) (AllReadyH.cons (o := { dst := some 28, op := Go.Op.call { callee := Go.Callee.value (Go.Operand.func 25), args := #[Go.Operand.tmp 27], argTypes := #[9] }, type := 9, pos := "ident.go:14", after := #[{ on := 6, ground := Go.Ground.data }, { on := 4, ground := Go.Ground.chain }], guard := none }) rfl (fun K hK => ?_) AllReadyH.nil)
      go_simp
      go_at_call 25; refine (HR.out _ (EY2.out.kept Q1.out)).mono ?_
      rintro e v2 ⟨rfl, q2⟩
      have Q2 := Lib.hid (Q1.out.trans q2)
      clear q2
      refine Shut.out hK _ _ ((BY2.out.kept Q2.out).cells) (fun hSb => ?_)
      clear hK K
      try simp only [Act.put, List.setIfInBounds_toArray, List.set_cons_zero, List.set_cons_succ]
      refine wpAnyH_take (i := 8) (oi := { dst := some 29, op := Go.Op.binOp Go.BinOp.add 9 (Go.Operand.tmp 26) (Go.Operand.tmp 28) 9, type := 9, pos := "ident.go:14", after := #[{ on := 5, ground := Go.Ground.data }, { on := 7, ground := Go.Ground.data }], guard := none }) (v := ?vs28) rfl (by kernel_rfl) (by kernel_rfl) (by kernel_rfl) (fun _ _ _ h => h) (Or.inl ⟨by rfl, ?ys28⟩) (by assumption) ?rs28
      case ys28 => (intro wq hSw; (try dsimp only at hSw); go_simp; try with_reducible rfl)
      simp only [Act.put, List.setIfInBounds_toArray, List.set_cons_zero, List.set_cons_succ]
      refine wpAnyH_take (i := 9) (oi := { dst := some 2, op := Go.Op.assign (Go.Operand.tmp 29), type := 9, pos := "ident.go:14", after := #[{ on := 8, ground := Go.Ground.data }, { on := 7, ground := Go.Ground.chain }, { on := 0, ground := Go.Ground.phase }, { on := 1, ground := Go.Ground.phase }, { on := 2, ground := Go.Ground.phase }, { on := 3, ground := Go.Ground.phase }, { on := 4, ground := Go.Ground.phase }, { on := 5, ground := Go.Ground.phase }, { on := 6, ground := Go.Ground.phase }, { on := 7, ground := Go.Ground.phase }, { on := 8, ground := Go.Ground.phase }], guard := none }) (v := ?vs29) rfl (by kernel_rfl) (by kernel_rfl) (by kernel_rfl) (fun _ _ _ h => h) (Or.inl ⟨by rfl, ?ys29⟩) (by assumption) ?rs29
      case ys29 => (intro wq hSw; (try dsimp only at hSw); go_simp; try with_reducible rfl)
      simp only [Act.put, List.setIfInBounds_toArray, List.set_cons_zero, List.set_cons_succ]
      refine wpAnyH_done (by kernel_rfl) ?_ _
      have KF := Lib.hid (KY2.out.trans Q2.out)
      clear hSb hS0 Q1 Q2 KD HO HR
      go_wp2
      go_ret
      exact ⟨by rw [HZ.out]; show Ending.returned (Value.string (⟨sch2.toArray⟩ ++ ⟨ho.toArray⟩ ++ ⟨re.toArray⟩)) = _; rw [str_app, str_app], KF.out⟩
    | false =>
      have HZ := Lib.hid (show z = t by rw [HN.out]; unfold normT; rw [hb1, if_neg (by decide), hb2, if_neg (by decide)])
      clear hb1 hb2 BY2
      go_wp2_with fail
      rw [rounds_succ]
      go_wp2
      go_ret
      exact ⟨by rw [HZ.out]; rfl, KY2.out⟩
end Go.Proofs.YtpkkpjonlogliaaDoor
