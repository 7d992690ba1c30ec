/- What the rows' listed tables read as; the arguments of package ident's laws, and that they read so behind the call. -/
import Derived.Test.YtpkkpjonlogliaaDoorRows
import Derived.Test.YtpkkpjonlogliaaDoorIdL
import Derived.Test.YtpkkpjonlogliaaDoorEnOpen
import Derived.Handed
import Derived.OpenShut
import Derived.ChangeSame
import Derived.Stop.LaidErr
import Derived.Lib.LaidU8T
import Derived.PinnedBridge
import Derived.Shelf.Vars
import Derived.Carry
import Derived.ChangeSlices
set_option linter.unusedSimpArgs false
set_option linter.unusedVariables false
namespace Go.Proofs.YtpkkpjonlogliaaDoor
open Go.ChangeShapes Go.WideShapes Go.ChangeAt Go.RowKit
open En Idn
theorem accept_eq : Rows.laid_unicode_utf8_acceptRanges = Lib.acceptData := by kernel_rfl
abbrev laid10 : List (String × DataW Unit) := [("unicode/utf8.acceptRanges", Rows.laid_unicode_utf8_acceptRanges), ("mailcoach/ident.webs", Rows.laid_mailcoach_ident_webs), ("unicode/utf8.first", Rows.laid_unicode_utf8_first)]
section
variable {H : Type} {enc : TypeId × Value → H} {w : World} {base : Nat} {spare : Nat → Bool} {held : Bool}
theorem cellsIs : Tryd.prog.cellsOf 9 = 1 := by kernel_rfl
theorem cellsIi : Tryd.prog.cellsOf 3 = 1 := by kernel_rfl
theorem cellsI2 : Tryd.prog.cellsOf 44 = 2 := by kernel_rfl
theorem cellsI5 : Tryd.prog.cellsOf 28 = 5 := by kernel_rfl
theorem list2 {α : Type} {l : List α} (h : l.length = 2) : ∃ a b, l = [a, b] := by
  match l, h with
  | [a, b], _ => exact ⟨a, b, rfl⟩
theorem list5 {α : Type} {l : List α} (h : l.length = 5) : ∃ a b c d e, l = [a, b, c, d, e] := by
  match l, h with
  | [a, b, c, d, e], _ => exact ⟨a, b, c, d, e, rfl⟩
set_option maxRecDepth 100000 in
theorem web_struct {n : Nat} {cs : List Value} {a b : List UInt8} {p : List MemPlace} (h : DataW.trod enc Tryd.prog w base spare held n 44 cs = some (.agg [.lit (.string a), .lit (.string b)], p)) : cs = [.string ⟨a.toArray⟩, .string ⟨b.toArray⟩] := by
  obtain ⟨xs, m, rfl, hx, hl, hlen, hel⟩ := DataW.trod_struct Tryd.underlying44 h
  rw [cellsI2] at hl
  obtain ⟨c0, c1, rfl⟩ := list2 hl
  obtain ⟨x0, x1, rfl⟩ := list2 (show xs.length = 2 from hlen)
  have e0 : DataW.trod enc Tryd.prog w base spare held m 9 (([c0, c1].drop 0).take (Tryd.prog.cellsOf 9)) = some x0 := hel 0 _ rfl
  have e1 : DataW.trod enc Tryd.prog w base spare held m 9 (([c0, c1].drop 1).take (Tryd.prog.cellsOf 9)) = some x1 := hel 1 _ rfl
  rw [cellsIs] at e0 e1
  obtain ⟨s0, q0, r0, _⟩ := DataW.trod_string Tryd.underlying9 (show DataW.trod enc Tryd.prog w base spare held m 9 [c0] = some x0 from e0)
  obtain ⟨s1, q1, r1, _⟩ := DataW.trod_string Tryd.underlying9 (show DataW.trod enc Tryd.prog w base spare held m 9 [c1] = some x1 from e1)
  cases q0; cases q1; subst r0; subst r1
  have hx1 := congrArg Prod.fst hx
  simp only [List.map_cons, List.map_nil, DataW.agg.injEq, List.cons.injEq, DataW.lit.injEq, Lit.string.injEq, and_true] at hx1
  rw [hx1.1, hx1.2, toList_mk, toList_mk]
end
theorem webs_of {W : World} (h : laidMet Tryd.prog laid10 W) : WebsP W := by
  obtain ⟨g, t, cs, fuel, p, hg, hty, hvar, hd⟩ := Lib.laidMet.reads h (.tail _ (.head _))
  obtain rfl := Option.some.inj ((show Tryd.prog.globalNamed "mailcoach/ident.webs" = some 0 by kernel_rfl).symm.trans hg)
  obtain rfl := Option.some.inj ((show (Tryd.prog.globals[0]?).map (·.type) = some 45 by kernel_rfl).symm.trans hty)
  unfold Rows.laid_mailcoach_ident_webs at hd
  obtain ⟨f0, d0, q0, hd0, he0⟩ := Lib.array_elem Tryd.underlying45 hd 0 (by decide)
  obtain ⟨f1, d1, q1, hd1, he1⟩ := Lib.array_elem Tryd.underlying45 hd 1 (by decide)
  simp only [List.getElem?_cons_zero, List.getElem?_cons_succ, Option.some.injEq] at hd0 hd1
  subst hd0 hd1
  rw [cellsI2] at he0 he1
  have e0 := web_struct he0
  have e1 := web_struct he1
  have g0 := congrArg (·[0]?) e0
  have g1 := congrArg (·[1]?) e0
  have g2 := congrArg (·[0]?) e1
  have g3 := congrArg (·[1]?) e1
  simp only [List.getElem?_take, List.getElem?_drop] at g0 g1 g2 g3
  intro j v hv
  rw [World.var?_cell hg hvar j, ← Array.getElem?_toList]
  match j, hv with
  | 0, hv => cases hv; show cs.toList[0]? = some (Value.string ⟨#[104, 116, 116, 112, 58, 47, 47]⟩); simpa using g0
  | 1, hv => cases hv; show cs.toList[1]? = some (Value.string ⟨#[58, 56, 48]⟩); simpa using g1
  | 2, hv => cases hv; show cs.toList[2]? = some (Value.string ⟨#[104, 116, 116, 112, 115, 58, 47, 47]⟩); simpa using g2
  | 3, hv => cases hv; show cs.toList[3]? = some (Value.string ⟨#[58, 52, 52, 51]⟩); simpa using g3
theorem ex_of {W : World} (hS : W.ShapedOpen Tryd.prog) (h : laidMet Tryd.prog laid10 W) : Env W := by
  refine ⟨?_, webs_of h, ?_⟩
  · refine utf8Tabs_of_readsT (ρ := Tryd.lays197_ren) { Tryd.lays197 with } ⟨by kernel_rfl, by kernel_rfl, by kernel_rfl, by kernel_rfl, by kernel_rfl, by kernel_rfl, by kernel_rfl⟩ ?_ ?_
    · have := Lib.laidMet.reads h (.tail _ (.tail _ (.head _)))
      rw [show Rows.laid_unicode_utf8_first = Pinned.utf8First from rfl, Pinned.utf8First_eq] at this
      exact this
    · have := Lib.laidMet.reads h (.head _)
      rw [accept_eq] at this
      exact this
  · exact cell_of_shapedOpen_int (g := 3) (t := 3) (zero := #[.int .i64 0]) hS (of_decide_eq_true (by kernel_rfl)) (by kernel_rfl) (by kernel_rfl) (by kernel_rfl) (by kernel_rfl) Tryd.underlying3
/-- as the kit's builder over 'laid', the world's shape handed on -/
theorem handed_shaped {H : Type} {enc : TypeId × Value → H} {a : Assume} {C : Checked} {os : Os} {f : FuncId} {fn : Func} {s : ChangeSpec} {conds : List PathCond} {apart fresh handsOn again : Bool} {X : World → Array Value → Prop}
    (hX : ∀ (w w' : World) (args : Array Value), w.heap = w'.heap → X w args → X w' args)
    (own : ownKnob C.prog.godebug = none) (started : os.Started) (noInit : C.prog.inits.idxOf? f = none) (hfn : C.prog.funcs[f]? = some fn)
    (witness : ∃ (w : World) (tape : Tape) (i : Input), w.os = os ∧ (w.forCall tape i).Shaped C.prog ∧ i.vars = [] ∧ Input.okWide C.prog (w.forCall tape i) .any w.heap.size f i ∧
      ((s.pre enc C.prog fn conds apart (w.forCall tape i).memory i.args ∧ X (w.forCall tape i).memory i.args) ∧ sizedMet enc C.prog fn (OpenSpec.ofChange s) apart (w.forCall tape i).memory i.args) ∧ a.holds C.prog (lone (Frame.enter C.prog f i.args .normal) [] (w.forCall tape i)))
    (contract : ∀ (W : World) (base : Nat) (args : Array Value) (ds gs : List (DataW H)) (before : List MemPlace),
      (∀ (j : Nat) t v, fn.params[j]? = some t → args[j]? = some v → Value.okWide C.prog W .any base t v) →
      DataW.Whole enc C.prog fn.params.toList s.vars apart W args.toList ds gs before → X W args → W.ShapedOpen C.prog →
      Calls C.prog f args W fun e W' => ∃ v, e = .returned v ∧ s.post enc C.prog fn apart fresh handsOn again W args v W') :
    ReturnsInHanded a C os f .any (fun w args => (s.pre enc C.prog fn conds apart w args ∧ X w args) ∧ sizedMet enc C.prog fn (OpenSpec.ofChange s) apart w args) (s.post enc C.prog fn apart fresh handsOn again) := by
  refine returnsInHanded_of_calls own started noInit witness ?_
  intro w tape i _ hshape _ hok hpre hholds
  obtain ⟨_, _, _, fn', hfn', _, _, _, _, hval⟩ := hok
  have e : fn' = fn := Option.some.inj (hfn'.symm.trans hfn)
  subst e
  obtain ⟨⟨⟨ds, gs, before, hw, hc⟩, hx⟩, hz⟩ := hpre
  have hw' := DataW.Whole.of_heap (w' := w.forCall tape i) (by rfl) hw
  refine (contract (w.forCall tape i) w.heap.size i.args ds gs before hval hw' (hX _ _ _ (by rfl) hx) hshape).mono fun e W' ⟨v, he, hp⟩ => ?_
  subst he
  exact ChangeSpec.post_blind hp
section
variable {H : Type} {enc : TypeId × Value → H} {w : World} {base : Nat} {spare : Nat → Bool} {held : Bool}
theorem laidOutB8 : laidOutB Tryd.prog = true := by kernel_rfl
/-- one cell of a row -/
theorem cells_at {g o n : Nat} {cs : List Value} (h : w.cells? base ⟨g, o, none⟩ n = some cs) {i : Nat} {v : Value} (hi : cs[i]? = some v) : w.cell? ⟨g, o + i, none⟩ = some v := by
  obtain ⟨_, hl, q⟩ := World.cells?_some h
  have hn : i < n := by rw [← hl]; exact (List.getElem?_eq_some_iff.1 hi).1
  have := q i hn
  rwa [Addr.add_lit, hi] at this
theorem cells_spot {a : Addr} {n : Nat} {cs : List Value} (h : w.cells? base a n = some cs) (hn : 0 < n) : a.spot = none := by
  obtain ⟨_, hl, q⟩ := World.cells?_some h
  have h0 := q 0 hn
  rw [Addr.add_zero'] at h0
  obtain ⟨v, hv⟩ : ∃ v, cs[0]? = some v := by
    cases cs with
    | nil => simp at hl; omega
    | cons v l => exact ⟨v, rfl⟩
  exact World.cell?_spot (h0.trans hv)
/-- a list made of what each place has -/
theorem mk_list {α : Type} : ∀ (n : Nat) (P : Nat → α → Prop), (∀ i, i < n → ∃ x, P i x) → ∃ l : List α, l.length = n ∧ ∀ (i : Nat) (x : α), l[i]? = some x → P i x
  | 0, P, _ => ⟨[], rfl, fun i x h => by simp at h⟩
  | n + 1, P, h => by
    obtain ⟨x, hx⟩ := h 0 (by omega)
    obtain ⟨l, hl, hp⟩ := mk_list n (fun i => P (i + 1)) (fun i hi => h (i + 1) (by omega))
    refine ⟨x :: l, by simp [hl], fun i y hy => ?_⟩
    cases i with
    | zero =>
      simp only [List.getElem?_cons_zero, Option.some.injEq] at hy
      subst hy; exact hx
    | succ i => exact hp i y (by simpa using hy)
theorem sV_of (s : ByteArray) : Value.string s = sV s.data.toList := by rw [sV, toList_mk]
set_option maxRecDepth 100000 in
theorem open_ent5 {n : Nat} {cs : List Value} {x : DataW H × List MemPlace} (h : DataW.trod enc Tryd.prog w base spare held n 28 cs = some x) : ∃ e : Ent, cs = eCells e ∧ Sm5 maxLen e := by
  obtain ⟨xs, m, rfl, hx, hl, hlen, hel⟩ := DataW.trod_struct Tryd.underlying28 h
  rw [cellsI5] at hl
  obtain ⟨c0, c1, c2, c3, c4, rfl⟩ := list5 hl
  obtain ⟨x0, x1, x2, x3, x4, rfl⟩ := list5 (show xs.length = 5 from hlen)
  have e0 : DataW.trod enc Tryd.prog w base spare held m 9 (([c0, c1, c2, c3, c4].drop 0).take (Tryd.prog.cellsOf 9)) = some x0 := hel 0 _ rfl
  have e1 : DataW.trod enc Tryd.prog w base spare held m 9 (([c0, c1, c2, c3, c4].drop 1).take (Tryd.prog.cellsOf 9)) = some x1 := hel 1 _ rfl
  have e2 : DataW.trod enc Tryd.prog w base spare held m 9 (([c0, c1, c2, c3, c4].drop 2).take (Tryd.prog.cellsOf 9)) = some x2 := hel 2 _ rfl
  have e3 : DataW.trod enc Tryd.prog w base spare held m 9 (([c0, c1, c2, c3, c4].drop 3).take (Tryd.prog.cellsOf 9)) = some x3 := hel 3 _ rfl
  have e4 : DataW.trod enc Tryd.prog w base spare held m 3 (([c0, c1, c2, c3, c4].drop 4).take (Tryd.prog.cellsOf 3)) = some x4 := hel 4 _ rfl
  rw [cellsIs] at e0 e1 e2 e3
  rw [cellsIi] at e4
  obtain ⟨s0, q0, _, z0⟩ := DataW.trod_string Tryd.underlying9 (show DataW.trod enc Tryd.prog w base spare held m 9 [c0] = some x0 from e0)
  obtain ⟨s1, q1, _, z1⟩ := DataW.trod_string Tryd.underlying9 (show DataW.trod enc Tryd.prog w base spare held m 9 [c1] = some x1 from e1)
  obtain ⟨s2, q2, _, z2⟩ := DataW.trod_string Tryd.underlying9 (show DataW.trod enc Tryd.prog w base spare held m 9 [c2] = some x2 from e2)
  obtain ⟨s3, q3, _, z3⟩ := DataW.trod_string Tryd.underlying9 (show DataW.trod enc Tryd.prog w base spare held m 9 [c3] = some x3 from e3)
  obtain ⟨n4, q4, _, _⟩ := DataW.trod_int Tryd.underlying3 (show DataW.trod enc Tryd.prog w base spare held m 3 [c4] = some x4 from e4)
  cases q0; cases q1; cases q2; cases q3; cases q4
  have hz : ∀ s : ByteArray, s.data.toList.length = s.size := fun s => by rw [Array.length_toList]; rfl
  exact ⟨(s0.data.toList, s1.data.toList, s2.data.toList, s3.data.toList, n4), by simp only [eCells, toList_mk], (by show s0.data.toList.length ≤ maxLen; rw [hz]; exact z0), (by show s1.data.toList.length ≤ maxLen; rw [hz]; exact z1), (by show s2.data.toList.length ≤ maxLen; rw [hz]; exact z2), (by show s3.data.toList.length ≤ maxLen; rw [hz]; exact z3)⟩
set_option maxRecDepth 100000 in
theorem open_ents {n : Nat} {c : Value} {x : DataW H × List MemPlace} (h : DataW.trod enc Tryd.prog w base spare held n 23 [c] = some x) : ∃ l, EnRd c l w ∧ l.length ≤ maxLen := by
  rcases DataW.trod_slice Tryd.underlying23 h with ⟨hc, _⟩ | ⟨a, len, cap, elems, rest, m, _, hc, _, hb, hl, hm, hlen, hel, _, _⟩
  · obtain rfl : c = .slice none 0 0 := by simpa using hc
    exact ⟨[], ⟨none, 0, rfl, fun h => absurd rfl h⟩, Nat.zero_le _⟩
  · obtain rfl : c = .slice (some a) len cap := by simpa using hc
    rw [cellsI5] at hel
    have each : ∀ i, i < len → ∃ t : Ent, a.spot = none ∧ EnAt a.block (a.off + i * 5) t w := by
      intro i hi
      have h1 := hel i hi
      rw [List.getElem?_eq_getElem (by omega), Option.bind_eq_some_iff] at h1
      obtain ⟨cs, hcs, ht⟩ := h1
      obtain ⟨t, rfl, _⟩ := open_ent5 ht
      have h2 := hel 0 (by omega)
      rw [List.getElem?_eq_getElem (by omega), Option.bind_eq_some_iff, Nat.zero_mul, Addr.add_zero'] at h2
      obtain ⟨cs0, hcs0, _⟩ := h2
      have hs := cells_spot hcs0 (by omega)
      obtain ⟨g, o, sp⟩ := a
      cases hs
      rw [Addr.add_lit] at hcs
      exact ⟨t, rfl, cells_at hcs (i := 0) rfl, cells_at hcs (i := 1) rfl, cells_at hcs (i := 2) rfl, cells_at hcs (i := 3) rfl, cells_at hcs (i := 4) rfl⟩
    obtain ⟨al, hal, hp⟩ := mk_list len _ each
    refine ⟨al, ⟨some a, cap, by rw [hal], fun hne => ?_⟩, by omega⟩
    obtain ⟨t0, ht0⟩ : ∃ t, al[0]? = some t := by
      cases al with
      | nil => exact absurd rfl hne
      | cons t l => exact ⟨t, rfl⟩
    have hs := (hp 0 t0 ht0).1
    obtain ⟨g, o, sp⟩ := a
    cases hs
    exact ⟨g, o, rfl, by omega, fun i t ht => (hp i t ht).2⟩
set_option maxRecDepth 100000 in
theorem open_txs {n : Nat} {c : Value} {x : DataW H × List MemPlace} (h : DataW.trod enc Tryd.prog w base spare held n 22 [c] = some x) : ∃ l : List B, TxRd c l w ∧ l.length ≤ maxLen ∧ ∀ s ∈ l, s.length ≤ maxLen := by
  rcases DataW.trod_slice Tryd.underlying22 h with ⟨hc, _⟩ | ⟨a, len, cap, elems, rest, m, _, hc, _, hb, hl, hm, hlen, hel, _, _⟩
  · obtain rfl : c = .slice none 0 0 := by simpa using hc
    exact ⟨[], ⟨none, 0, rfl, fun _ => rfl, fun h => absurd rfl h⟩, Nat.zero_le _, fun s hs => by simp at hs⟩
  · obtain rfl : c = .slice (some a) len cap := by simpa using hc
    rw [cellsIs] at hel
    have each : ∀ i, i < len → ∃ t : B, a.spot = none ∧ w.cell? ⟨a.block, a.off + i, none⟩ = some (sV t) ∧ t.length ≤ maxLen := by
      intro i hi
      have h1 := hel i hi
      rw [List.getElem?_eq_getElem (by omega), Option.bind_eq_some_iff, Nat.mul_one] at h1
      obtain ⟨cs, hcs, ht⟩ := h1
      obtain ⟨s0, rfl, _, z0⟩ := DataW.trod_string Tryd.underlying9 ht
      have h2 := hel 0 (by omega)
      rw [List.getElem?_eq_getElem (by omega), Option.bind_eq_some_iff, Nat.zero_mul, Addr.add_zero'] at h2
      obtain ⟨cs0, hcs0, _⟩ := h2
      have hs := cells_spot hcs0 (by omega)
      obtain ⟨g, o, sp⟩ := a
      cases hs
      rw [Addr.add_lit] at hcs
      refine ⟨s0.data.toList, rfl, ?_, (by rw [show s0.data.toList.length = s0.size from by rw [Array.length_toList]; rfl]; exact z0)⟩
      have := cells_at hcs (i := 0) rfl
      rw [sV_of] at this
      exact this
    obtain ⟨al, hal, hp⟩ := mk_list len _ each
    refine ⟨al, ⟨some a, cap, by rw [hal], (fun q => by cases q), fun hne => ?_⟩, by omega, fun s hs => ?_⟩
    · obtain ⟨t0, ht0⟩ : ∃ t, al[0]? = some t := by
        cases al with
        | nil => exact absurd rfl hne
        | cons t l => exact ⟨t, rfl⟩
      have hs := (hp 0 t0 ht0).1
      obtain ⟨g, o, sp⟩ := a
      cases hs
      exact ⟨g, o, rfl, by omega, fun i t ht => (hp i t ht).2.1⟩
    · obtain ⟨i, hi⟩ := List.getElem?_of_mem hs
      exact (hp i s hi).2.2
set_option maxRecDepth 100000 in
theorem open_entry8 {r : Reach} {b0 : Nat} {v : Value} {d : DataW H} {p : List MemPlace}
    (hval : Value.okWide Tryd.prog w r b0 28 v) (h : DataW.Trod enc Tryd.prog w base spare held 28 v d p) : ∃ e : Ent, v = entV e ∧ Sm5 maxLen e := by
  obtain ⟨cs, rfl⟩ : ∃ cs, v = .agg cs := by
    unfold Value.okWide at hval
    simp only [Tryd.underlying28] at hval
    obtain ⟨cs, hv, _⟩ := hval
    exact ⟨cs, hv⟩
  clear hval
  obtain ⟨fuel, hf⟩ := h
  obtain ⟨e, he, hs⟩ := open_ent5 hf
  obtain ⟨l⟩ := cs
  refine ⟨e, ?_, hs⟩
  have hl : l = eCells e := he
  rw [hl]
set_option maxRecDepth 100000 in
theorem open_entries8 {r : Reach} {b0 : Nat} {v : Value} {d : DataW H} {p : List MemPlace}
    (hval : Value.okWide Tryd.prog w r b0 23 v) (h : DataW.Trod enc Tryd.prog w base spare held 23 v d p) : ∃ l, EnRd v l w ∧ l.length ≤ maxLen := by
  obtain ⟨ad, len, cap, rfl⟩ := okWide_slice Tryd.underlying23 hval
  obtain ⟨fuel, hf⟩ := h
  exact open_ents (show DataW.trod enc Tryd.prog w base spare held fuel 23 [Value.slice ad len cap] = some (d, p) from hf)
set_option maxRecDepth 100000 in
theorem open_texts8 {r : Reach} {b0 : Nat} {v : Value} {d : DataW H} {p : List MemPlace}
    (hval : Value.okWide Tryd.prog w r b0 22 v) (h : DataW.Trod enc Tryd.prog w base spare held 22 v d p) : ∃ l : List B, TxRd v l w ∧ l.length ≤ maxLen ∧ ∀ s ∈ l, s.length ≤ maxLen := by
  obtain ⟨ad, len, cap, rfl⟩ := okWide_slice Tryd.underlying22 hval
  obtain ⟨fuel, hf⟩ := h
  exact open_txs (show DataW.trod enc Tryd.prog w base spare held fuel 22 [Value.slice ad len cap] = some (d, p) from hf)
theorem shut_entry8 {W W' : World} {v : Value} {d : DataW H} {ps before : List MemPlace} (h : DataW.Trod enc Tryd.prog W 0 (fun _ => true) true 28 v d ps) (k : Kept W W') (hlt : ∀ x ∈ before, x.block < W.heap.size) (hsub : ∀ x ∈ ps, x ∈ before) {sp : Nat → Bool} (hsp : ∀ p ∈ before, sp p.block = true) :
    DataW.Trod enc Tryd.prog W' 0 sp true 28 v d ps :=
  WideElems.Trod_stays laidOutB8 (by kernel_rfl) (of_decide_eq_true (by kernel_rfl)) h (fun x hx => (k.below (Nat.le_refl _)).same (hlt x (hsub x hx))) (fun x hx => hsp x (hsub x hx))
theorem shut_entries8 {W W' : World} {v : Value} {d : DataW H} {ps before : List MemPlace} (h : DataW.Trod enc Tryd.prog W 0 (fun _ => true) true 23 v d ps) (k : Kept W W') (hlt : ∀ x ∈ before, x.block < W.heap.size) (hsub : ∀ x ∈ ps, x ∈ before) {sp : Nat → Bool} (hsp : ∀ p ∈ before, sp p.block = true) :
    DataW.Trod enc Tryd.prog W' 0 sp true 23 v d ps :=
  WideElems.Trod_stays laidOutB8 (by kernel_rfl) (of_decide_eq_true (by kernel_rfl)) h (fun x hx => (k.below (Nat.le_refl _)).same (hlt x (hsub x hx))) (fun x hx => hsp x (hsub x hx))
theorem shut_texts8 {W W' : World} {v : Value} {d : DataW H} {ps before : List MemPlace} (h : DataW.Trod enc Tryd.prog W 0 (fun _ => true) true 22 v d ps) (k : Kept W W') (hlt : ∀ x ∈ before, x.block < W.heap.size) (hsub : ∀ x ∈ ps, x ∈ before) {sp : Nat → Bool} (hsp : ∀ p ∈ before, sp p.block = true) :
    DataW.Trod enc Tryd.prog W' 0 sp true 22 v d ps :=
  WideElems.Trod_stays laidOutB8 (by kernel_rfl) (of_decide_eq_true (by kernel_rfl)) h (fun x hx => (k.below (Nat.le_refl _)).same (hlt x (hsub x hx))) (fun x hx => hsp x (hsub x hx))
end
end Go.Proofs.YtpkkpjonlogliaaDoor
