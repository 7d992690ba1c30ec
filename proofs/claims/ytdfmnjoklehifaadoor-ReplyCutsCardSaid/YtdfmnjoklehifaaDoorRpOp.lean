/- What the arguments of package reply's laws read as; what the listed tables hold. -/
import Derived.Test.YtdfmnjoklehifaaDoorRows
import Derived.Test.YtdfmnjoklehifaaDoorRpAw
import Derived.Handed
import Derived.ChangeSame
import Derived.Shelf.Vars
import Derived.OpenShut
import Derived.ChangeMaps5
import Derived.Carry
import Derived.ChangeSlices
import Derived.Lib.LaidTab
import Derived.Stop.LaidErr
set_option linter.unusedSimpArgs false
set_option linter.unusedVariables false
namespace Go.Proofs.YtdfmnjoklehifaaDoor.Bk.Rp
open Go.ChangeShapes Go.WideShapes Go.ChangeAt Go.RowKit Go.Shelf
theorem errTy : (Tryd.prog.globals[2]?).map (·.type) = some 96 := by kernel_rfl
theorem starE : "*" ++ "errors.errorString" = "*errors.errorString" := by decide
theorem rowE (u : TypeId) (h : Tryd.prog.typeName? 3 u = some "*errors.errorString") : u = 143 :=
  typeName_ptr_named (nm := "errors.errorString") (by rw [starE]; kernel_rfl) (by kernel_rfl) (by decide) u (by rw [starE]; exact h)
theorem tPow : (Tryd.prog.globals[0]?).map (·.type) = some 116 := by kernel_rfl
theorem errTyR : (Tryd.prog.globals[3]?).map (·.type) = some 96 := by kernel_rfl
abbrev laid17 : List (String × DataW Unit) := [("math/bits.deBruijn32tab", Rows.laid_math_bits_deBruijn32tab), ("math/bits.deBruijn64tab", Rows.laid_math_bits_deBruijn64tab), ("internal/strconv.uint64pow10", Rows.laid_internal_strconv_uint64pow10), ("unicode/utf8.acceptRanges", Rows.laid_unicode_utf8_acceptRanges), ("strconv.ErrRange", Rows.laid_strconv_ErrRange), ("strconv.ErrSyntax", Rows.laid_strconv_ErrSyntax), ("unicode/utf8.first", Rows.laid_unicode_utf8_first)]
theorem ex_of {W : World} (h : laidMet Tryd.prog laid17 W) (hs : W.ShapedOpen Tryd.prog) : EX W := by
  have hml := cell_of_shapedOpen_int (g := 1) (t := 3) (zero := #[.int .i64 0]) hs (of_decide_eq_true (by kernel_rfl)) (by kernel_rfl) (by kernel_rfl) (by kernel_rfl) (by kernel_rfl) Tryd.underlying3
  refine ⟨hml, ?_, ?_, ?_, ?_⟩
  · exact Lib.tabIs_of_head gPow tPow Tryd.underlying116 Tryd.underlying102 (by kernel_rfl) (by kernel_rfl) (laidMet.tail (laidMet.tail h))
  · have h6 := laidMet.tail (laidMet.tail (laidMet.tail (laidMet.tail (laidMet.tail h))))
    obtain ⟨a, s, hv, _⟩ := laid_sentinel h6 (g := 2) (by kernel_rfl) errTy Tryd.underlying96 rowE Tryd.underlying143 Tryd.underlying145 rfl rfl Tryd.underlying9 (by kernel_rfl) (by kernel_rfl)
    have h0 := World.var?_cell (g := 2) (by kernel_rfl) hv 0
    exact ⟨_, h0, Or.inr ⟨_, _, rfl⟩⟩
  · have h4 := laidMet.tail (laidMet.tail (laidMet.tail (laidMet.tail h)))
    obtain ⟨a, s, hv, _⟩ := laid_sentinel h4 (g := 3) (by kernel_rfl) errTyR Tryd.underlying96 rowE Tryd.underlying143 Tryd.underlying145 rfl rfl Tryd.underlying9 (by kernel_rfl) (by kernel_rfl)
    have h0 := World.var?_cell (g := 3) (by kernel_rfl) hv 0
    exact ⟨_, h0, Or.inr ⟨_, _, rfl⟩⟩
  · have h0 : (((begin Tryd.prog (fun _ _ => 0) default).world.heap[7]?).bind Obj.row?).isSome = true := by kernel_rfl
    obtain ⟨⟨z, t⟩, hz⟩ := Option.isSome_iff_exists.1 h0
    obtain ⟨cs, hc, _⟩ := hs.1 7 z t (of_decide_eq_true (by kernel_rfl)) hz
    exact (Array.getElem?_eq_some_iff.1 hc).1
/-- as the kit's builder over 'laid', the world's shape handed on -/
theorem handed_shaped {H : Type} {enc : TypeId × Value → H} {a : Assume} {C : Checked} {os : Os} {f : FuncId} {fn : Func} {s : ChangeSpec} {conds : List PathCond} {apart fresh handsOn again : Bool} {X : World → Array Value → Prop}
    (hX : ∀ (w w' : World) (args : Array Value), w.heap = w'.heap → X w args → X w' args)
    (own : ownKnob C.prog.godebug = none) (started : os.Started) (noInit : C.prog.inits.idxOf? f = none) (hfn : C.prog.funcs[f]? = some fn)
    (witness : ∃ (w : World) (tape : Tape) (i : Input), w.os = os ∧ (w.forCall tape i).Shaped C.prog ∧ i.vars = [] ∧ Input.okWide C.prog (w.forCall tape i) .any w.heap.size f i ∧
      ((s.pre enc C.prog fn conds apart (w.forCall tape i).memory i.args ∧ X (w.forCall tape i).memory i.args) ∧ sizedMet enc C.prog fn (OpenSpec.ofChange s) apart (w.forCall tape i).memory i.args) ∧ a.holds C.prog (lone (Frame.enter C.prog f i.args .normal) [] (w.forCall tape i)))
    (contract : ∀ (W : World) (base : Nat) (args : Array Value) (ds gs : List (DataW H)) (before : List MemPlace),
      (∀ (j : Nat) t v, fn.params[j]? = some t → args[j]? = some v → Value.okWide C.prog W .any base t v) →
      DataW.Whole enc C.prog fn.params.toList s.vars apart W args.toList ds gs before → X W args → W.ShapedOpen C.prog →
      Calls C.prog f args W fun e W' => ∃ v, e = .returned v ∧ s.post enc C.prog fn apart fresh handsOn again W args v W') :
    ReturnsInHanded a C os f .any (fun w args => (s.pre enc C.prog fn conds apart w args ∧ X w args) ∧ sizedMet enc C.prog fn (OpenSpec.ofChange s) apart w args) (s.post enc C.prog fn apart fresh handsOn again) := by
  refine returnsInHanded_of_calls own started noInit witness ?_
  intro w tape i _ hshape _ hok hpre hholds
  obtain ⟨_, _, _, fn', hfn', _, _, _, _, hval⟩ := hok
  have e : fn' = fn := Option.some.inj (hfn'.symm.trans hfn)
  subst e
  obtain ⟨⟨⟨ds, gs, before, hw, hc⟩, hx⟩, hz⟩ := hpre
  have hw' := DataW.Whole.of_heap (w' := w.forCall tape i) (by rfl) hw
  refine (contract (w.forCall tape i) w.heap.size i.args ds gs before hval hw' (hX _ _ _ (by rfl) hx) hshape).mono fun e W' ⟨v, he, hp⟩ => ?_
  subst he
  exact ChangeSpec.post_blind hp
theorem toList_mk (s : ByteArray) : ⟨s.data.toList.toArray⟩ = s := by simp
variable {H : Type} {enc : TypeId × Value → H} {w : World} {base : Nat} {spare : Nat → Bool} {held : Bool}
theorem cellsB1 : Tryd.prog.cellsOf 5 = 1 := by kernel_rfl
theorem laidOutB8 : laidOutB Tryd.prog = true := by kernel_rfl
set_option maxRecDepth 100000 in
theorem open_brd {n : Nat} {c : Value} {x : DataW H × List MemPlace} (h : DataW.trod enc Tryd.prog w base spare held n 26 [c] = some x) : ∃ l, BRd c l w ∧ l.length ≤ maxLen := by
  rcases open_ints Tryd.underlying26 Tryd.underlying5 cellsB1 h with ⟨hc, _⟩ | ⟨a, len, cap, zs, hc, hb, hl, hm, hlen, hx, hcell, hwf⟩
  · obtain rfl : c = .slice none 0 0 := by simpa using hc
    exact ⟨[], ⟨none, 0, rfl, fun _ => rfl, fun h => absurd rfl h⟩, Nat.zero_le _⟩
  · obtain rfl : c = .slice (some a) len cap := by simpa using hc
    have hz : len ≤ zs.length := by rw [hlen]; split <;> omega
    have hlz : ((zs.take len).map fun z => UInt8.ofNat z.toNat).length = len := by rw [List.length_map, List.length_take, Nat.min_eq_left hz]
    refine ⟨(zs.take len).map fun z => UInt8.ofNat z.toNat, ⟨some a, cap, by rw [hlz], fun e => (by cases e), fun hne => ?_⟩, by rw [hlz]; omega⟩
    have h0 : 0 < len := by
      rcases Nat.eq_zero_or_pos len with q | q
      · exact absurd (List.length_eq_zero_iff.1 (hlz.trans q)) hne
      · exact q
    have hlt := hcell 0 (by omega)
    obtain ⟨b, o, sp⟩ := a
    have hspot : sp = none := by simpa [Addr.add] using World.cell?_spot hlt
    subst hspot
    refine ⟨b, o, rfl, by rw [hlz]; exact hl, fun i y hy => ?_⟩
    have hi : i < len := by
      have := (List.getElem?_eq_some_iff.1 hy).1
      rwa [hlz] at this
    have hz2 : zs[i]? = some (zs.getD i 0) := by
      rw [List.getD_eq_getElem?_getD, List.getElem?_eq_getElem (by omega)]; rfl
    rw [List.getElem?_map, List.getElem?_take, if_pos hi, hz2] at hy
    simp only [Option.map_some, Option.some.injEq] at hy
    have hw := hwf _ (List.mem_of_getElem? hz2)
    have hb : 0 ≤ zs.getD i 0 ∧ zs.getD i 0 ≤ 255 := by simpa [Lit.wf, IntKind.min, IntKind.max, IntKind.signed, IntKind.bits] using hw
    have hq := hcell i (by omega)
    rw [Addr.add_lit] at hq
    rw [hq, ← hy, UInt8.toNat_ofNat']
    congr 2
    omega
set_option maxRecDepth 100000 in
theorem open_bytes8 {r : Reach} {b0 : Nat} {v : Value} {d : DataW H} {p : List MemPlace}
    (hval : Value.okWide Tryd.prog w r b0 26 v) (h : DataW.Trod enc Tryd.prog w base spare held 26 v d p) : ∃ l, BRd v l w ∧ l.length ≤ maxLen := by
  obtain ⟨ad, len, cap, rfl⟩ := okWide_slice Tryd.underlying26 hval
  obtain ⟨fuel, hf⟩ := h
  exact open_brd (show DataW.trod enc Tryd.prog w base spare held fuel 26 [Value.slice ad len cap] = some (d, p) from hf)
/-- an argument reads behind the call as it did -/
theorem shut_bytes8 {W W' : World} {v : Value} {d : DataW H} {ps before : List MemPlace} (h : DataW.Trod enc Tryd.prog W 0 (fun _ => true) true 26 v d ps) (k : Kept W W') (hlt : ∀ x ∈ before, x.block < W.heap.size) (hsub : ∀ x ∈ ps, x ∈ before) {sp : Nat → Bool} (hsp : ∀ p ∈ before, sp p.block = true) :
    DataW.Trod enc Tryd.prog W' 0 sp true 26 v d ps :=
  WideElems.Trod_stays laidOutB8 (by kernel_rfl) (of_decide_eq_true (by kernel_rfl)) h (fun x hx => (k.below (Nat.le_refl _)).same (hlt x (hsub x hx))) (fun x hx => hsp x (hsub x hx))
theorem cellsIs : Tryd.prog.cellsOf 9 = 1 := by kernel_rfl
/-- one cell of a row -/
theorem cells_at {g o n : Nat} {cs : List Value} (h : w.cells? base ⟨g, o, none⟩ n = some cs) {i : Nat} {v : Value} (hi : cs[i]? = some v) : w.cell? ⟨g, o + i, none⟩ = some v := by
  obtain ⟨_, hl, q⟩ := World.cells?_some h
  have hn : i < n := by rw [← hl]; exact (List.getElem?_eq_some_iff.1 hi).1
  have := q i hn
  rwa [Addr.add_lit, hi] at this
theorem cells_spot {a : Addr} {n : Nat} {cs : List Value} (h : w.cells? base a n = some cs) (hn : 0 < n) : a.spot = none := by
  obtain ⟨_, hl, q⟩ := World.cells?_some h
  have h0 := q 0 hn
  rw [Addr.add_zero'] at h0
  obtain ⟨v, hv⟩ : ∃ v, cs[0]? = some v := by
    cases cs with
    | nil => simp at hl; omega
    | cons v l => exact ⟨v, rfl⟩
  exact World.cell?_spot (h0.trans hv)
/-- a list made of what each place has -/
theorem mk_list {α : Type} : ∀ (n : Nat) (P : Nat → α → Prop), (∀ i, i < n → ∃ x, P i x) → ∃ l : List α, l.length = n ∧ ∀ (i : Nat) (x : α), l[i]? = some x → P i x
  | 0, P, _ => ⟨[], rfl, fun i x h => by simp at h⟩
  | n + 1, P, h => by
    obtain ⟨x, hx⟩ := h 0 (by omega)
    obtain ⟨l, hl, hp⟩ := mk_list n (fun i => P (i + 1)) (fun i hi => h (i + 1) (by omega))
    refine ⟨x :: l, by simp [hl], fun i y hy => ?_⟩
    cases i with
    | zero =>
      simp only [List.getElem?_cons_zero, Option.some.injEq] at hy
      subst hy; exact hx
    | succ i => exact hp i y (by simpa using hy)
end Go.Proofs.YtdfmnjoklehifaaDoor.Bk.Rp
