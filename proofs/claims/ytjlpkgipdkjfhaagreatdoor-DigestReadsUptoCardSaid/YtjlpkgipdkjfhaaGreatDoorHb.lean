import Derived.Test.YtjlpkgipdkjfhaaGreatDoorKept
import Derived.RangeFuncNested
import Derived.RangeFuncBound
import Derived.RangeFuncCalls
import Derived.RangeFuncLeaves
import Derived.RangeFuncOne
import Derived.Shelf.Abstract
import Derived.Shelf.RegionOpen
import Derived.OwnWalkIn
import Derived.TacticsInMore
import Derived.LoopNIn
import Derived.LoopIn
import Derived.Test.YtjlpkgipdkjfhaaGreatDoorHa
import Derived.Lib.FrozenHead
import Derived.Lib.FrozenHead2
set_option linter.unusedVariables false
set_option linter.unusedSimpArgs false
namespace Go.Proofs.YtjlpkgipdkjfhaaGreatDoor.Bk.Hd
open Go.ChangeShapes Go.WideShapes Go.ChangeAt Go.RowKit Go.Shelf
structure Save (M : Nat → Obj → Prop) (A B : World) : Prop where
  os : B.os = A.os
  output : B.output = A.output
  size : A.heap.size ≤ B.heap.size
  block : ∀ k o, A.heap[k]? = some o → ¬ M k o → B.heap[k]? = some o
  tape : B.tape = A.tape
theorem Save.refl (M : Nat → Obj → Prop) (A : World) : Save M A A := ⟨rfl, rfl, Nat.le_refl _, fun _ _ h _ => h, rfl⟩
theorem Save.trans {M : Nat → Obj → Prop} {A B C : World} (h : Save M A B) (k : Save M B C) : Save M A C :=
  ⟨k.os.trans h.os, k.output.trans h.output, Nat.le_trans h.size k.size, fun i o hi hm => k.block i o (h.block i o hi hm) hm, k.tape.trans h.tape⟩
theorem Save.mono {M M' : Nat → Obj → Prop} {A B : World} (h : Save M A B) (hm : ∀ k o, A.heap[k]? = some o → M k o → M' k o) : Save M' A B :=
  ⟨h.os, h.output, h.size, fun k o hk hn => h.block k o hk (fun q => hn (hm k o hk q)), h.tape⟩
theorem at_some {A : World} {k : Nat} (h : k < A.heap.size) : ∃ o, A.heap[k]? = some o := ⟨_, Array.getElem?_eq_getElem h⟩
theorem Save.of_kept {A B : World} (M : Nat → Obj → Prop) (h : Kept A B) : Save M A B := ⟨h.os, h.output, h.size, fun k o hk _ => (h.block k (Array.getElem?_eq_some_iff.1 hk).1).trans hk, h.tape⟩
theorem Save.kept {M : Nat → Obj → Prop} {A B : World} (h : Save M A B) (hm : ∀ k o, A.heap[k]? = some o → ¬ M k o) : Kept A B := ⟨h.os, h.output, h.size, fun k hk => by
  obtain ⟨o, ho⟩ := at_some hk
  rw [ho]; exact h.block k o ho (hm k o ho), h.tape⟩
theorem Save.below {M : Nat → Obj → Prop} {A B : World} (h : Save M A B) {n : Nat} (hn : n ≤ A.heap.size) (hm : ∀ k o, A.heap[k]? = some o → M k o → n ≤ k) : Below n A B :=
  ⟨h.os, h.tape, h.output, h.size, fun k hk => by
    obtain ⟨o, ho⟩ := at_some (show k < A.heap.size by omega)
    rw [ho]; exact h.block k o ho (fun q => by have := hm k o ho q; omega)⟩
theorem Save.put {A : World} {r : Nat} (o : Obj) {M : Nat → Obj → Prop} (hM : ∀ o', A.heap[r]? = some o' → M r o') : Save M A (A.putObj r o) :=
  ⟨rfl, rfl, by simp, fun k o' hk hn => by
    rw [World.putObj_heap_other (fun e => hn (by subst e; exact hM _ hk))]; exact hk, rfl⟩
theorem Save.set {A : World} {p : Addr} (v : Value) {M : Nat → Obj → Prop} (hM : ∀ o', A.heap[p.block]? = some o' → M p.block o') : Save M A (A.setCell p v) :=
  ⟨rfl, rfl, by simp [World.setCell], fun k o' hk hn => by
    rw [Below.heap_setCell _ _ _ _ (fun e => hn (by subst e; exact hM _ hk))]; exact hk, rfl⟩
theorem Save.at {M : Nat → Obj → Prop} {A B : World} (h : Save M A B) {b : Nat} {o : Obj} (hb : A.heap[b]? = some o) (hm : ¬ M b o) : B.heap[b]? = some o := h.block b o hb hm
theorem yield_any {n m : Nat} {P : Program} {l : Nat} {args : Array Value} {W : World} {R : Ending → World → Prop} (h : YieldAt Fence.wide n P l args W R) : YieldAt Fence.wide m P l args W R := by
  obtain ⟨fn, tmps, assign, body, hy, hR⟩ := h
  exact ⟨fn, tmps, assign, body, hy, hR.1, fun c cs _ => hR.2 c cs (room_wide _)⟩
def Itr {σ : Type} (P : Program) (g : Nat) (lb : Array Value) (Step : σ → Array Value → σ → Prop) (End : σ → Prop) (s0 : σ) (T R : Nat → Prop) (cap : World → Prop) : Prop :=
  ∀ (n l : Nat) (M : Nat → Obj → Prop) (J Jx : σ → World → Prop) (W : World), cap W → (∀ k o, M k o → ¬ T k ∧ ¬ R k) →
    (∀ s A B, J s A → Save (fun k _ => T k) A B → J s B) → (∀ s A B, Jx s A → Save (fun k _ => T k) A B → Jx s B) →
    (∀ s a s' W1, Step s a s' → J s W1 → YieldAt Fence.wide n P l a W1 fun e W' => Save M W1 W' ∧ ((e = .returned (.bool true) ∧ J s' W') ∨ (e = .returned (.bool false) ∧ Jx s' W'))) →
    J s0 W →
    CallsIn Fence.wide n P g (#[.func (.yield l) #[] #[]] ++ lb) W fun e W' => (∃ v, e = .returned v) ∧ Save (fun k o => M k o ∨ T k) W W' ∧ ((∃ s, End s ∧ J s W') ∨ (∃ s, Jx s W'))
def Itn (T : Nat → Prop) (n : Nat) (k : Nat) (o : Obj) : Prop := T k ∨ (n ≤ k ∧ o.isCells = false)
def rgPost {σ : Type} (M : Nat → Obj → Prop) (I : σ → World → Prop) (Ix : Code → σ → World → Prop) (s : σ) (W : World) : Exit → Act → World → Prop
  | .normal, _, W' => Save M W W' ∧ I s W'
  | .ret, _, W' => Save M W W' ∧ Ix .ret s W'
  | .exit id, _, W' => Save M W W' ∧ Ix (.exit id) s W'
  | .goto t, _, W' => Save M W W' ∧ Ix (.goto t) s W'
  | .panic _, _, _ => False
  | .outgrown, _, _ => False
theorem range_itr {σ : Type} {P : Program} {n : Nat} {g : Operand} {ps : Array Tmp} {assign body : Code} {Q : Exit → Act → World → Prop} {a : Act} {w : World}
    {gf : Nat} {lb : Array Value} (hg : a.eval g = .func (.func gf) #[] lb) (eg : ∀ args w, (callFunc gf args).run P w = .ok (.enter gf args) w)
    {Step : σ → Array Value → σ → Prop} {End : σ → Prop} {s0 : σ} {T R : Nat → Prop} {cap : World → Prop} (hT : ∀ k, T k → k < w.heap.size) (hRd : ∀ k, R k → k < w.heap.size) (hit : Itr P gf lb Step End s0 T R cap)
    (hps : ∀ s arr s', Step s arr s' → arr.size = ps.size) (M : Nat → Obj → Prop) (hM : ∀ k o, M k o → (¬ T k ∧ ¬ R k) ∧ o.isCells = true)
    (hcap : cap w) (hcapK : ∀ A B, Kept A B → cap A → cap B)
    (I : σ → World → Prop) (Ix : Code → σ → World → Prop) (hI : ∀ s A B, I s A → Save (Itn T w.heap.size) A B → I s B) (hIx : ∀ c s A B, Ix c s A → Save (Itn T w.heap.size) A B → Ix c s B) (h0 : I s0 w)
    (hround : ∀ (l : Nat) (s : σ) (arr : Array Value) (s' : σ) (W : World), Step s arr s' → I s W → w.heap.size + 1 < W.heap.size → ∀ K : Act → World → Prop,
      (∀ a' W', Kept W W' → (∀ W2, Save (fun k _ => k = w.heap.size + 1) W' W2 → Save (Itn T w.heap.size) W' W2 → body.wpIn (Fence.wide.inRound l) (n - 1) P (rgPost M I Ix s' W2) a' W2) → K a' W') →
      assign.wpIn (Fence.wide.inRound l) (n - 1) P (Exit.then K (fun _ _ _ => False)) { tmps := (ps.zip arr).foldl (fun t (p, v) => t.setIfInBounds p v) a.tmps, defers := [] } W)
    (hdone : ∀ (s : σ) (W : World), End s → I s W → Save (fun k o => M k o ∨ T k) w W → W.heap[w.heap.size]? = some (.deferred (some [])) → Q .normal { a with defers := { target := .collected w.heap.size, args := #[] } :: a.defers } W)
    (hstop : ∀ (c : Code) (s : σ) (W : World), Ix c s W → Save (fun k o => M k o ∨ T k) w W → W.heap[w.heap.size]? = some (.deferred (some [])) → c.wpIn Fence.wide n P Q { a with defers := { target := .collected w.heap.size, args := #[] } :: a.defers } W) :
    (Code.rangeFunc g ps assign body).wpIn Fence.wide n P Q a w := by
  refine wpIn_rangeFunc (fun fn hfn => ?_)
  generalize hr : (fun (st : LoopState) (pe : Option Code) => ({ state := st, pending := pe, fn, tmps := a.tmps, params := ps, assign, body, defers := w.heap.size } : Loop)) = rc
  have rcE : ∀ st pe, rc st pe = { state := st, pending := pe, fn, tmps := a.tmps, params := ps, assign, body, defers := w.heap.size } := fun st pe => by rw [← hr]
  have k0 : Kept w ((w.alloc (.deferred (some []))).alloc (.loop (rc .ready none))) := ((Kept.refl w).alloc _).alloc _
  have b0 : ((w.alloc (.deferred (some []))).alloc (.loop (rc .ready none))).heap[w.heap.size]? = some (.deferred (some [])) :=
    (Below.heap_alloc _ _ _ (by simp)).trans (World.alloc_heap_new w _)
  have b1 : ((w.alloc (.deferred (some []))).alloc (.loop (rc .ready none))).heap[w.heap.size + 1]? = some (.loop (rc .ready none)) := by
    have := World.alloc_heap_new (w.alloc (.deferred (some []))) (.loop (rc .ready none)); rwa [World.size_alloc] at this
  have s0' : ((w.alloc (.deferred (some []))).alloc (.loop (rc .ready none))).heap.size = w.heap.size + 2 := by simp
  have he : (Instr.enterLoop fn a.tmps ps assign body Fence.wide.round).run P w = .ok (w.heap.size + 1, [{ target := .collected w.heap.size, args := #[] }]) ((w.alloc (.deferred (some []))).alloc (.loop (rc .ready none))) := by
    rw [rcE]; exact run_enterLoop_outer _ _ _ _ _
  generalize (w.alloc (.deferred (some []))).alloc (.loop (rc .ready none)) = X at *
  refine ⟨w.heap.size + 1, _, X, { target := .fn (.func gf) lb, args := #[.func (.yield (w.heap.size + 1)) #[] #[]] }, X, gf, #[.func (.yield (w.heap.size + 1)) #[] #[]] ++ lb, X, he, ?_, fun _ _ => trivial, ?_, fun h => by simp [Fence.wide] at h, ?_⟩
  · simp only [resolve, hg]
    simp [go_sem]
  · simp [invoke, go_sem, eg]
  have own : ∀ k o, (M k o ∨ k = w.heap.size + 1) → ¬ T k ∧ ¬ R k := fun k o hk => by
    rcases hk with h | h
    · exact (hM k o h).1
    · exact ⟨fun hq => by have := hT k hq; omega, fun hq => by have := hRd k hq; omega⟩
  have nT1 : ¬ T (w.heap.size + 1) := fun h => by have := hT _ h; omega
  have nT0 : ¬ T w.heap.size := fun h => by have := hT _ h; omega
  refine (hit (n - 1) (w.heap.size + 1) (fun k o => M k o ∨ k = w.heap.size + 1)
    (fun s W => I s W ∧ W.heap[w.heap.size + 1]? = some (.loop (rc .ready none)) ∧ W.heap[w.heap.size]? = some (.deferred (some [])) ∧ X.heap.size ≤ W.heap.size)
    (fun s W => ∃ c, Ix c s W ∧ W.heap[w.heap.size + 1]? = some (.loop (rc .done (some c))) ∧ W.heap[w.heap.size]? = some (.deferred (some [])))
    X (hcapK _ _ k0 hcap) own
    (fun s A B h k => ⟨hI s A B h.1 (k.mono (fun _ _ _ q => Or.inl q)), k.block _ _ h.2.1 nT1, k.block _ _ h.2.2.1 nT0, Nat.le_trans h.2.2.2 k.size⟩)
    (fun s A B ⟨c, h1, h2, h3⟩ k => ⟨c, hIx c s A B h1 (k.mono (fun _ _ _ q => Or.inl q)), k.block _ _ h2 nT1, k.block _ _ h3 nT0⟩)
    ?_ ⟨hI s0 w X h0 (Save.of_kept _ k0), b1, b0, Nat.le_refl _⟩).mono ?_
  · -- one round
    rintro s arr s' W hst ⟨hi, hl, hd, hsz⟩
    have hy := run_yield (P := P) (args := arr) hl (by rw [rcE]; exact hps s arr s' hst)
    rw [rcE] at hy
    refine ⟨fn, _, assign, body, hy, roundIn_of_wpIn hfn (hround _ s arr s' W hst hi (by omega) _ (fun a' W' k' hb => ?_))⟩
    have hl' : W'.heap[w.heap.size + 1]? = some (.loop (rc .ready none)) := (k'.block _ (by omega)).trans hl
    have hd' : W'.heap[w.heap.size]? = some (.deferred (some [])) := (k'.block _ (by omega)).trans hd
    refine ⟨_, run_beginRound hl' (by rw [rcE]), ?_⟩
    have hk' := k'.size
    have hl2 : (W'.putObj (w.heap.size + 1) (.loop { rc .ready none with state := .busy })).heap[w.heap.size + 1]? = some (.loop { rc .ready none with state := .busy }) := World.putObj_heap_same (by omega)
    have hd2 : (W'.putObj (w.heap.size + 1) (.loop { rc .ready none with state := .busy })).heap[w.heap.size]? = some (.deferred (some [])) := (World.putObj_heap_other (by omega)).trans hd'
    have v1 : Save (fun k o => M k o ∨ k = w.heap.size + 1) W (W'.putObj (w.heap.size + 1) (.loop { rc .ready none with state := .busy })) := (Save.of_kept _ k').trans (Save.put _ (fun _ _ => Or.inr rfl))
    have hs2 : (W'.putObj (w.heap.size + 1) (.loop { rc .ready none with state := .busy })).heap.size = W'.heap.size := by simp
    refine wpIn_mono (hb _ (Save.put _ (fun _ _ => rfl)) (Save.put _ (fun o2 h2 => Or.inr ⟨by omega, by rw [hl'] at h2; cases h2; rfl⟩))) ?_
    generalize W'.putObj (w.heap.size + 1) (.loop { rc .ready none with state := .busy }) = W2 at *
    have fin : ∀ (jump : Option Code) (W3 : World), Save M W2 W3 → ∃ W4, (Instr.endRound (w.heap.size + 1) jump).run P W3 = .ok (.bool jump.isNone) W4 ∧ Save (fun k o => M k o ∨ k = w.heap.size + 1) W W4 ∧ Save (Itn T w.heap.size) W3 W4 ∧ W3.heap.size ≤ W4.heap.size ∧
        W4.heap[w.heap.size + 1]? = some (.loop (rc (if jump.isNone then .ready else .done) jump)) ∧ W4.heap[w.heap.size]? = some (.deferred (some [])) := fun jump W3 v3 => by
      have q1 : ¬ M (w.heap.size + 1) (.loop { rc .ready none with state := .busy }) := fun h => by
        exact Bool.noConfusion (show false = true from (hM _ _ h).2)
      have q0 : ¬ M w.heap.size (.deferred (some [])) := fun h => by
        exact Bool.noConfusion (show false = true from (hM _ _ h).2)
      have hl3 := v3.at hl2 q1
      have hd3 := v3.at hd2 q0
      have hlt3 := (Array.getElem?_eq_some_iff.1 hl3).1
      have := run_endRound (P := P) jump hl3
      refine ⟨_, this, v1.trans ((v3.mono (fun k o _ h => Or.inl h)).trans (Save.put _ (fun _ _ => Or.inr rfl))), Save.put _ (fun o2 h2 => Or.inr ⟨by omega, by rw [hl3] at h2; cases h2; rfl⟩), by simp, ?_, (World.putObj_heap_other (by omega)).trans hd3⟩
      rw [World.putObj_heap_same hlt3, rcE, rcE]
    rintro e a3 W3 hp
    cases e with
    | normal =>
      obtain ⟨v3, hi3⟩ := hp
      obtain ⟨W4, hr4, v4, b4, z4, l4, d4⟩ := fin none W3 v3
      exact ⟨_, W4, hr4, v4, .inl ⟨rfl, hI s' W3 W4 hi3 b4, l4, d4, by have := v3.size; omega⟩⟩
    | ret =>
      obtain ⟨v3, hi3⟩ := hp
      obtain ⟨W4, hr4, v4, b4, z4, l4, d4⟩ := fin (some .ret) W3 v3
      exact ⟨_, W4, hr4, v4, .inr ⟨rfl, .ret, hIx _ s' W3 W4 hi3 b4, l4, d4⟩⟩
    | exit id =>
      obtain ⟨v3, hi3⟩ := hp
      obtain ⟨W4, hr4, v4, b4, z4, l4, d4⟩ := fin (some (.exit id)) W3 v3
      exact ⟨_, W4, hr4, v4, .inr ⟨rfl, .exit id, hIx _ s' W3 W4 hi3 b4, l4, d4⟩⟩
    | goto t =>
      obtain ⟨v3, hi3⟩ := hp
      obtain ⟨W4, hr4, v4, b4, z4, l4, d4⟩ := fin (some (.goto t)) W3 v3
      exact ⟨_, W4, hr4, v4, .inr ⟨rfl, .goto t, hIx _ s' W3 W4 hi3 b4, l4, d4⟩⟩
    | panic ch => exact hp.elim
    | outgrown => exact hp.elim
  · -- behind it
    have back : ∀ W2, Save (fun k o => (M k o ∨ k = w.heap.size + 1) ∨ T k) X W2 → ∀ o, Save (fun k o => M k o ∨ T k) w (W2.putObj (w.heap.size + 1) o) := fun W2 v o =>
      ⟨v.os.trans k0.os, v.output.trans k0.output, by have := v.size; simp; omega, fun k o' hk hm => by
        have hlt := (Array.getElem?_eq_some_iff.1 hk).1
        exact (World.putObj_heap_other (by omega)).trans (v.block k o' ((k0.block k hlt).trans hk) (fun q => by rcases q with (q | q) | q; (· exact hm (Or.inl q)); (· omega); (· exact hm (Or.inr q)))), v.tape.trans k0.tape⟩
    rintro e W2 ⟨⟨v, rfl⟩, vs, ⟨s, hE, hi, hl, hd, -⟩ | ⟨s, c, hi, hl, hd⟩⟩
    · have hlt := (Array.getElem?_eq_some_iff.1 hl).1
      have hz := vs.size
      refine ⟨none, _, by have := run_endLoop (P := P) hl (by rw [rcE]; simp); rw [rcE] at this; exact this, hdone s _ hE (hI s W2 _ hi ?_) (back W2 vs _) ((World.putObj_heap_other (by omega)).trans hd)⟩
      exact Save.put _ (fun o2 h2 => Or.inr ⟨by omega, by rw [hl] at h2; cases h2; rfl⟩)
    · have hlt := (Array.getElem?_eq_some_iff.1 hl).1
      have hz := vs.size
      refine ⟨some c, _, by have := run_endLoop (P := P) hl (by rw [rcE]; simp); rw [rcE] at this; exact this, hstop c s _ (hIx c s W2 _ hi ?_) (back W2 vs _) ((World.putObj_heap_other (by omega)).trans hd)⟩
      exact Save.put _ (fun o2 h2 => Or.inr ⟨by omega, by rw [hl] at h2; cases h2; rfl⟩)
end Go.Proofs.YtjlpkgipdkjfhaaGreatDoor.Bk.Hd
namespace Go.Proofs.YtjlpkgipdkjfhaaGreatDoor.Bk.Hd
open Go.ChangeShapes Go.WideShapes Go.ChangeAt Go.RowKit
def Mk (n : Nat) (fz : Nat × Nat) : Prop := n ≤ fz.1 ∨ fz.2 = 0
theorem run_storeCells_atM (P : Program) (g o : Nat) (t : TypeId) (fz : Nat × Nat) : ∀ (vs : List Value) (i : Nat) (cur : Array Value) (w : World), w.heap[g]? = some (.cells cur t fz) → Mk cur.size fz → o + i + vs.length ≤ cur.size → (∀ v ∈ vs, v.oneCell' = true) →
    (storeCells ⟨g, o, none⟩ vs i).run P w = .ok () (w.setRow g (cur.toList.take (o + i) ++ vs ++ cur.toList.drop (o + i + vs.length)).toArray)
  | [], i, cur, w, hg, _, _, _ => by
    simp only [storeCells, List.append_nil, List.length_nil, Nat.add_zero, List.take_append_drop, Array.toArray_toList]
    rw [setRow_self w g cur t fz hg]
    rfl
  | v :: rest, i, cur, w, hg, hfz, hl, h1 => by
    have hi : o + i < cur.size := by simp at hl; omega
    have hadd : (⟨g, o, none⟩ : Addr).add i = ⟨g, o + i, none⟩ := by unfold Addr.add; split <;> simp_all
    have hcell : w.cell? ⟨g, o + i, none⟩ = some cur[o + i] := by simp [World.cell?, hg, hi]
    have hfro : w.frozen? ⟨g, o + i, none⟩ = false := by
      obtain ⟨lo, hi'⟩ := fz
      simp only [World.frozen?, hg, Bool.and_eq_false_iff, decide_eq_false_iff_not]
      unfold Mk at hfz
      simp only at hfz
      omega
    have hst : (store ((⟨g, o, none⟩ : Addr).add i) v).run P w = .ok () (w.setRow g (cur.setIfInBounds (o + i) v)) := by
      rw [hadd, run_store P w _ v _ (h1 v (by simp)), hcell]
      simp [hfro, setCell_eq_setRow w g (o + i) cur t fz v hg]
    have ih := run_storeCells_atM P g o t fz rest (i + 1) (cur.setIfInBounds (o + i) v) (w.setRow g (cur.setIfInBounds (o + i) v)) (setRow_heap w g cur _ t _ hg) (by simpa using hfz) (by simp at hl ⊢; omega) (fun x hx => h1 x (by simp [hx]))
    simp only [storeCells, Sem.run_bind, hst, Result.andThen_ok, ih, setRow_setRow]
    congr 3
    have e := list_seg_step cur.toList (o + i) v rest (by simp at hl ⊢; omega)
    simpa [Array.toList_setIfInBounds, Nat.add_assoc] using e
def OwnM (B0 : Nat) (v : Value) (l : B) (w : World) : Prop :=
  (v = .slice none 0 0 ∧ l = []) ∨ ∃ g cap cur fz, v = .slice (some ⟨g, 0, none⟩) l.length cap ∧ B0 ≤ g ∧ w.heap[g]? = some (.cells cur 5 fz) ∧ Mk cur.size fz ∧ l.length ≤ cap ∧ cap ≤ maxLen ∧ cur.size = cap ∧ cur.toList.take l.length = byteCells l
section
variable {B0 : Nat} {v : Value} {l : B} {w w' : World}
theorem OwnM.of (h : OwnB B0 v l w) : OwnM B0 v l w := by
  rcases h.2 with ⟨h1, h2⟩ | ⟨g, cap, cur, h1, h2, h3, h4, h5, h6, h7⟩
  · exact Or.inl ⟨h1, List.length_eq_zero_iff.1 h2⟩
  · exact Or.inr ⟨g, cap, cur, (0, 0), h1, h2, h3, Or.inr rfl, h4, h5, by simpa using h6, by simpa using h7⟩
theorem OwnM.nil (B0 : Nat) (w : World) : OwnM B0 (.slice none 0 0) [] w := Or.inl ⟨rfl, rfl⟩
theorem OwnM.slice (h : OwnM B0 v l w) : ∃ a c, v = .slice a l.length c := by
  rcases h with ⟨h1, h2⟩ | ⟨g, cap, cur, fz, h1, _⟩
  · exact ⟨none, 0, by rw [h1, h2]; rfl⟩
  · exact ⟨_, _, h1⟩
theorem OwnM.lt (h : OwnM B0 v l w) : ∀ k, v.ownBlock = some k → B0 ≤ k ∧ k < w.heap.size := by
  intro k hk
  rcases h with ⟨rfl, _⟩ | ⟨g, cap, cur, fz, rfl, hb, hg, _⟩
  · simp [Value.ownBlock] at hk
  · simp [Value.ownBlock] at hk
    subst hk
    exact ⟨hb, (Array.getElem?_eq_some_iff.1 hg).1⟩
theorem OwnM.kind (h : OwnM B0 v l w) : ∀ k, v.ownBlock = some k → ∃ cs fz, w.heap[k]? = some (.cells cs 5 fz) := by
  intro k hk
  rcases h with ⟨rfl, _⟩ | ⟨g, cap, cur, fz, rfl, hb, hg, _⟩
  · simp [Value.ownBlock] at hk
  · simp [Value.ownBlock] at hk
    subst hk
    exact ⟨_, _, hg⟩
theorem OwnM.stay (h : OwnM B0 v l w) (hs : ∀ k, v.ownBlock = some k → w'.heap[k]? = w.heap[k]?) : OwnM B0 v l w' := by
  rcases h with h | ⟨g, cap, cur, fz, rfl, hb, hg, h⟩
  · exact Or.inl h
  · exact Or.inr ⟨g, cap, cur, fz, rfl, hb, (hs g rfl).trans hg, h⟩
theorem OwnM.kept (h : OwnM B0 v l w) (k : Kept w w') : OwnM B0 v l w' := h.stay fun j hj => k.block j (h.lt j hj).2
theorem OwnM.mono {B1 : Nat} (h : OwnM B1 v l w) (hB : B0 ≤ B1) : OwnM B0 v l w := by
  rcases h with h | ⟨g, cap, cur, fz, h1, h2, h3⟩
  · exact Or.inl h
  · exact Or.inr ⟨g, cap, cur, fz, h1, Nat.le_trans hB h2, h3⟩
theorem OwnM.cells (h : OwnM B0 v l w) {g : Nat} (hg : v.ownBlock = some g) : ∀ j u, (byteCells l)[j]? = some u → w.cell? ((⟨g, 0, none⟩ : Addr).add j) = some u := by
  intro j u hu
  rcases h with ⟨rfl, _⟩ | ⟨g', cap, cur, fz, rfl, _, hgg, _, _, _, _, htake⟩
  · simp [Value.ownBlock] at hg
  · simp [Value.ownBlock] at hg
    subst hg
    have hadd : (⟨g', 0, none⟩ : Addr).add j = ⟨g', j, none⟩ := by unfold Addr.add; split <;> simp_all
    rw [hadd, cell_of_row w g' j cur _ fz hgg]
    rw [← htake, List.getElem?_take] at hu
    split at hu
    · simpa using hu
    · cases hu
theorem OwnM.rd (h : OwnM B0 v l w) : BRd v l w := by
  have hc := fun g => h.cells (g := g)
  rcases h with ⟨h1, h2⟩ | ⟨g, cap, cur, fz, h1, _, _, _, hl, _⟩
  · exact ⟨none, 0, by rw [h1, h2]; rfl, fun _ => rfl, fun hne => absurd h2 hne⟩
  · refine ⟨some ⟨g, 0, none⟩, cap, h1, fun e => (by cases e), fun _ => ⟨g, 0, rfl, hl, fun i x hx => ?_⟩⟩
    have := hc g (by rw [h1]; rfl) i (.int .u8 x.toNat) (by simp [byteCells, hx])
    rwa [Addr.add_lit] at this
end
theorem len_cells (l : B) : (byteCells l).length = l.length := by simp
theorem strc_cells (t : B) : Lib.strCells ⟨t.toArray⟩ = byteCells t := str_cells t
theorem grown_m (w : World) (l t : B) (B0 old : Nat) (hB : B0 ≤ w.heap.size) (hl : l.length + t.length ≤ 100000000000000) (ho : old < l.length + t.length) (row : Option Nat) (cs : Array Value) (hcs : cs = (byteCells l).toArray ++ (byteCells t).toArray ++ Builtin.zeroCells (Value.cells (.int .u8 0)) (grownCap w (l.length + t.length) old 5 - (l.length + t.length))) :
    OwnM B0 (.slice (some ⟨w.heap.size, 0, none⟩) (l.length + t.length) (grownCap w (l.length + t.length) old 5)) (l ++ t) (w.drew.alloc (.cells cs 5)) ∧ w.grownBy (w.drew.alloc (.cells cs 5)) row := by
  have hge := grownCap_ge w (l.length + t.length) old 5
  have hcm : grownCap w (l.length + t.length) old 5 ≤ maxLen := grownCap_le_maxLen w (l.length + t.length) old 5 (by unfold maxLen; omega)
  generalize grownCap w (l.length + t.length) old 5 = cap at *
  subst hcs
  have hz1 : (Value.int IntKind.u8 0).cells.size = 1 := rfl
  refine ⟨Or.inr ⟨w.heap.size, cap, _, (0, 0), by rw [List.length_append], hB, heap_alloc_new w.drew _, Or.inr rfl, by rw [List.length_append]; exact hge, hcm, ?_, ?_⟩, ⟨rfl, rfl, rfl, by simp, fun k hk _ => heap_alloc_old w.drew _ hk⟩⟩
  · simp only [Array.size_append, List.size_toArray, size_zeroCells, hz1, len_cells]
    omega
  · simp only [Array.toList_append, List.append_assoc]
    rw [← List.append_assoc, byteCells_app, show (l ++ t).length = (byteCells l ++ byteCells t).length by simp]
    exact List.take_left
def NewB (w : World) (v v' : Value) : Prop := ∀ g, v'.ownBlock = some g → v.ownBlock = some g ∨ w.heap.size ≤ g
theorem run_strM (w : World) (B0 : Nat) (ty : TypeId) (v : Value) (l t : B) (hO : OwnM B0 v l w) (hl : l.length + t.length ≤ 100000000000000) (hB : B0 ≤ w.heap.size) :
    ∃ v' w', (Builtin.append_ #[25, 9] ty #[v, sV t]).run Tryz.prog w = .ok v' w' ∧ OwnM B0 v' (l ++ t) w' ∧ w.grownBy w' v.ownBlock ∧ NewB w v v' := by
  obtain ⟨i0, hi, hz0, hz1, hz2⟩ := info_parts info8
  have hsz : (ByteArray.mk t.toArray).size = t.length := List.size_toArray
  have hcell := fun g => hO.cells (g := g)
  rcases hO with ⟨rfl, rfl⟩ | ⟨g, cap, cur, fz, rfl, hbg, hg, hfz, hnc, hcm, hcs, htake⟩
  · obtain ⟨v', w', hr, h2, h3, h4⟩ := Lib.run_append_own_string (P := Tryz.prog) w w.heap.size 25 9 ty 5 i0 Tryz.underlying25 Tryz.underlying9 hi hz0 hz1 hz2 (.slice none 0 0) 0 [] (World.ownsRow_nil _ _ _ _) ⟨t.toArray⟩ (by rw [hsz]; unfold maxLen; simp at hl; omega) (by rw [hsz]; simp at hl; omega) (Nat.le_refl _)
    rw [hsz, str_cells] at h2
    have h5 : OwnB w.heap.size v' ([] ++ t) w' := by unfold OwnB; rw [List.nil_append]; simpa using h2
    exact ⟨v', w', hr, (OwnM.of h5).mono hB, h3, fun g hg => Or.inr (World.ownsRow.lt h5 g hg).1⟩
  · by_cases hroom : l.length + t.length ≤ cap
    · have hf := Lib.run_firstCells_string (P := Tryz.prog) w 1 ⟨t.toArray⟩
      have hst := run_storeCells_atM Tryz.prog g l.length 5 fz (Lib.strCells ⟨t.toArray⟩) 0 cur w hg hfz (by rw [Lib.strCells_length, hsz]; omega) (Lib.strCells_oneCell _)
      simp only [Nat.add_zero, Lib.strCells_length] at hst
      rw [hsz] at hst hf
      have hr : (Builtin.append_ #[25, 9] ty #[.slice (some ⟨g, 0, none⟩) l.length cap, sV t]).run Tryz.prog w = .ok (.slice (some ⟨g, 0, none⟩) (l.length + t.length) cap) (w.setRow g (cur.toList.take l.length ++ Lib.strCells ⟨t.toArray⟩ ++ cur.toList.drop (l.length + t.length)).toArray) := by
        simp [Builtin.append_, run_underlying Tryz.underlying25, run_underlying Tryz.underlying9, sizeOf, typeInfo, hi, hz1, Builtin.lenOf, hsz, hroom, hf, Addr.add_lit, hst]
      refine ⟨_, _, hr, Or.inr ⟨g, cap, _, fz, by rw [List.length_append], hbg, setRow_heap w g cur _ _ _ hg, ?_, by rw [List.length_append]; exact hroom, hcm, ?_, ?_⟩, ⟨rfl, rfl, rfl, by simp, fun k _ hk => setRow_other w g k _ (fun e => hk (by simp [Value.ownBlock, e]))⟩, fun _ h => Or.inl h⟩
      · have : (cur.toList.take l.length ++ Lib.strCells ⟨t.toArray⟩ ++ cur.toList.drop (l.length + t.length)).toArray.size = cur.size := by
          simp only [List.size_toArray, List.length_append, List.length_take, List.length_drop, Array.length_toList, Lib.strCells_length, hsz]
          omega
        rw [this]; exact hfz
      · simp only [List.size_toArray, List.length_append, List.length_take, List.length_drop, Array.length_toList, Lib.strCells_length, hsz]
        omega
      · rw [htake, strc_cells, byteCells_app, show (l ++ t).length = (byteCells l ++ byteCells t).length by simp]
        exact List.take_left
    · have hr := Lib.run_append_grow_string (P := Tryz.prog) (w := w) 25 9 ty 5 i0 (.int .u8 0) Tryz.underlying25 Tryz.underlying9 hi hz0 ⟨g, 0, none⟩ l.length cap (byteCells l) (by rw [hz1]; simp) (hcell g rfl) ⟨t.toArray⟩ (by rw [hsz]; omega) (by rw [hsz]; omega) (by rw [hsz]; exact growslice_fits (by omega) (by rw [hz2]; omega))
      rw [hsz, str_cells] at hr
      obtain ⟨q1, q2⟩ := grown_m w l t B0 cap hB hl (by omega) (Value.ownBlock (.slice (some ⟨g, 0, none⟩) l.length cap)) _ rfl
      exact ⟨_, _, hr, q1, q2, fun g' hg' => Or.inr (by simp [Value.ownBlock] at hg'; omega)⟩
theorem run_sliceM (w : World) (B0 : Nat) (ty : TypeId) (v xv : Value) (l t : B) (hO : OwnM B0 v l w) (hR : BRd xv t w) (hl : l.length + t.length ≤ 100000000000000) (hB : B0 ≤ w.heap.size) :
    ∃ v' w', (Builtin.append_ #[25, 25] ty #[v, xv]).run Tryz.prog w = .ok v' w' ∧ OwnM B0 v' (l ++ t) w' ∧ w.grownBy w' v.ownBlock ∧ NewB w v v' := by
  obtain ⟨i0, hi, hz0, hz1, hz2⟩ := info_parts info8
  by_cases ht : t = []
  · subst ht
    obtain ⟨ad, c, rfl, hz, _⟩ := hR
    obtain ⟨va, vc, rfl⟩ := hO.slice
    have hle : l.length ≤ vc := by
      rcases hO with ⟨h1, h2⟩ | ⟨g, cap, cur, fz, h1, _, _, _, hnc, _⟩
      · rw [h2]; exact Nat.zero_le _
      · injection h1 with _ _ e3; rw [e3]; exact hnc
    have hva : va = none → vc = 0 := by
      rcases hO with ⟨h1, h2⟩ | ⟨g, cap, cur, fz, h1, _⟩
      · injection h1 with _ _ e3; exact fun _ => e3
      · injection h1 with e1; intro e; rw [e] at e1; cases e1
    refine ⟨.slice va l.length vc, w, ?_, by rw [List.append_nil]; exact hO, ⟨rfl, rfl, rfl, Nat.le_refl _, fun _ _ _ => rfl⟩, fun _ h => Or.inl h⟩
    cases ad <;> cases va <;> simp [Builtin.append_, run_underlying Tryz.underlying25, sizeOf, typeInfo, hi, Builtin.lenOf, Builtin.firstCells, loadCells, loadCellsFrom, storeCells, hle]
  · obtain ⟨ad, c, rfl, hz, hR⟩ := hR
    obtain ⟨g2, o2, rfl, hc2, hcell2⟩ := hR ht
    have hlt := List.length_pos_iff.2 ht
    have hnews : ∀ (j : Nat) v, (byteCells t)[j]? = some v → w.cell? ((⟨g2, o2, none⟩ : Addr).add j) = some v := fun j v hj => by
      simp only [byteCells, List.getElem?_map, Option.map_eq_some_iff] at hj
      obtain ⟨b, hb, rfl⟩ := hj
      rw [Addr.add_lit]; exact hcell2 j b hb
    have hcell := fun g => hO.cells (g := g)
    rcases hO with ⟨rfl, rfl⟩ | ⟨g, cap, cur, fz, rfl, hbg, hg, hfz, hnc, hcm, hcs, htake⟩
    · have hr := run_append_nil (P := Tryz.prog) (w := w) 25 ty 5 i0 (.int .u8 0) Tryz.underlying25 hi hz0 ⟨g2, o2, none⟩ t.length c (byteCells t) (by rw [hz1]; simp) hnews (by omega) (by simp at hl; omega) (by rw [hz2]; simp at hl; omega)
      obtain ⟨q1, q2⟩ := grown_m w [] t B0 0 hB hl (by simp; omega) (Value.ownBlock (.slice none 0 0)) _ rfl
      simp only [List.length_nil, Nat.zero_add] at q1 q2
      refine ⟨_, _, hr, ?_, ?_, fun g' hg' => Or.inr (by simp [Value.ownBlock] at hg'; omega)⟩
      · simpa using q1
      · simpa using q2
    · by_cases hroom : l.length + t.length ≤ cap
      · have hf := run_firstCells_some (P := Tryz.prog) w 1 t.length ⟨g2, o2, none⟩ t.length c (byteCells t) (by simp) hnews
        have hst := run_storeCells_atM Tryz.prog g l.length 5 fz (byteCells t) 0 cur w hg hfz (by simp; omega) (fun u hu => by simp only [byteCells, List.mem_map] at hu; obtain ⟨b, _, rfl⟩ := hu; rfl)
        simp only [Nat.add_zero, len_cells] at hst
        have hr : (Builtin.append_ #[25, 25] ty #[.slice (some ⟨g, 0, none⟩) l.length cap, .slice (some ⟨g2, o2, none⟩) t.length c]).run Tryz.prog w = .ok (.slice (some ⟨g, 0, none⟩) (l.length + t.length) cap) (w.setRow g (cur.toList.take l.length ++ byteCells t ++ cur.toList.drop (l.length + t.length)).toArray) := by
          simp [Builtin.append_, run_underlying Tryz.underlying25, sizeOf, typeInfo, hi, hz1, Builtin.lenOf, hroom, hf, Addr.add_lit, hst]
        refine ⟨_, _, hr, Or.inr ⟨g, cap, _, fz, by rw [List.length_append], hbg, setRow_heap w g cur _ _ _ hg, ?_, by rw [List.length_append]; exact hroom, hcm, ?_, ?_⟩, ⟨rfl, rfl, rfl, by simp, fun k _ hk => setRow_other w g k _ (fun e => hk (by simp [Value.ownBlock, e]))⟩, fun _ h => Or.inl h⟩
        · have : (cur.toList.take l.length ++ byteCells t ++ cur.toList.drop (l.length + t.length)).toArray.size = cur.size := by
            simp only [List.size_toArray, List.length_append, List.length_take, List.length_drop, Array.length_toList, len_cells]
            omega
          rw [this]; exact hfz
        · simp only [List.size_toArray, List.length_append, List.length_take, List.length_drop, Array.length_toList, len_cells]
          omega
        · rw [htake, byteCells_app, show (l ++ t).length = (byteCells l ++ byteCells t).length by simp]
          exact List.take_left
      · have hr := run_append_grow (P := Tryz.prog) (w := w) 25 ty 5 i0 (.int .u8 0) Tryz.underlying25 hi hz0 ⟨g, 0, none⟩ l.length cap (byteCells l) (by rw [hz1]; simp) (hcell g rfl) ⟨g2, o2, none⟩ t.length c (byteCells t) (by rw [hz1]; simp) hnews (by omega) (by omega) (growslice_fits (by omega) (by rw [hz2]; omega))
        obtain ⟨q1, q2⟩ := grown_m w l t B0 cap hB hl (by omega) (Value.ownBlock (.slice (some ⟨g, 0, none⟩) l.length cap)) _ rfl
        exact ⟨_, _, hr, q1, q2, fun g' hg' => Or.inr (by simp [Value.ownBlock] at hg'; omega)⟩
theorem wp_strM {op : Oper} {a : Act} {w : World} {K : Act → World → Prop} {Q : Exit → Act → World → Prop} (sx x : Operand) (ho : op.op = .call { callee := .builtin .append, args := #[sx, x], argTypes := #[25, 9] })
    (B0 : Nat) (v : Value) (l t : B) (hs : a.eval sx = v) (hO : OwnM B0 v l w) (hx : a.eval x = .string ⟨t.toArray⟩) (hl : l.length + t.length ≤ 100000000000000) (hB : B0 ≤ w.heap.size)
    (h : ∀ v' w', OwnM B0 v' (l ++ t) w' → w.grownBy w' v.ownBlock → NewB w v v' → K (a.put op.dst v') w') : op.wp Tryz.prog a w K Q := by
  obtain ⟨v', w', hr, h2, h3, h4⟩ := run_strM w B0 op.type v l t hO hl hB
  unfold Oper.wp execOp
  simp only [ho, resolve, invoke, builtin, Sem.run_bind, Sem.run_pure, Result.andThen_ok, List.map_toArray, List.map_cons, List.map_nil, hs, hx, hr]
  exact h v' w' h2 h3 h4
theorem wp_sliceM {op : Oper} {a : Act} {w : World} {K : Act → World → Prop} {Q : Exit → Act → World → Prop} (sx x : Operand) (ho : op.op = .call { callee := .builtin .append, args := #[sx, x], argTypes := #[25, 25] })
    (B0 : Nat) (v xv : Value) (l t : B) (hs : a.eval sx = v) (hO : OwnM B0 v l w) (hx : a.eval x = xv) (hR : BRd xv t w) (hl : l.length + t.length ≤ 100000000000000) (hB : B0 ≤ w.heap.size)
    (h : ∀ v' w', OwnM B0 v' (l ++ t) w' → w.grownBy w' v.ownBlock → NewB w v v' → K (a.put op.dst v') w') : op.wp Tryz.prog a w K Q := by
  obtain ⟨v', w', hr, h2, h3, h4⟩ := run_sliceM w B0 op.type v xv l t hO hR hl hB
  unfold Oper.wp execOp
  simp only [ho, resolve, invoke, builtin, Sem.run_bind, Sem.run_pure, Result.andThen_ok, List.map_toArray, List.map_cons, List.map_nil, hs, hx, hr]
  exact h v' w' h2 h3 h4
theorem wpList_strM {ops : Array Oper} {rest : List Oper} {op : Oper} {a : Act} {w : World} {Q : Exit → Act → World → Prop} (hg : op.guard = none) (sx x : Operand) (ho : op.op = .call { callee := .builtin .append, args := #[sx, x], argTypes := #[25, 9] })
    (B0 : Nat) (v : Value) (l t : B) (hs : a.eval sx = v) (hO : OwnM B0 v l w) (hx : a.eval x = .string ⟨t.toArray⟩) (hl : l.length + t.length ≤ 100000000000000) (hB : B0 ≤ w.heap.size)
    (h : ∀ v' w', OwnM B0 v' (l ++ t) w' → w.grownBy w' v.ownBlock → NewB w v v' → wpList Tryz.prog ops Q rest (a.put op.dst v') w') : wpList Tryz.prog ops Q (op :: rest) a w :=
  wpList_plain hg fun K hK => wp_strM sx x ho B0 v l t hs hO hx hl hB (fun v' w' h1 h2 h3 => hK _ _ (h v' w' h1 h2 h3))
theorem wpList_sliceM {ops : Array Oper} {rest : List Oper} {op : Oper} {a : Act} {w : World} {Q : Exit → Act → World → Prop} (hg : op.guard = none) (sx x : Operand) (ho : op.op = .call { callee := .builtin .append, args := #[sx, x], argTypes := #[25, 25] })
    (B0 : Nat) (v xv : Value) (l t : B) (hs : a.eval sx = v) (hO : OwnM B0 v l w) (hx : a.eval x = xv) (hR : BRd xv t w) (hl : l.length + t.length ≤ 100000000000000) (hB : B0 ≤ w.heap.size)
    (h : ∀ v' w', OwnM B0 v' (l ++ t) w' → w.grownBy w' v.ownBlock → NewB w v v' → wpList Tryz.prog ops Q rest (a.put op.dst v') w') : wpList Tryz.prog ops Q (op :: rest) a w :=
  wpList_plain hg fun K hK => wp_sliceM sx x ho B0 v xv l t hs hO hx hR hl hB (fun v' w' h1 h2 h3 => hK _ _ (h v' w' h1 h2 h3))
theorem wpListIn_ok {F : Fence} {n : Nat} {ops : Array Oper} {rest : List Oper} {op : Oper} {a : Act} {w w' : World} {v' : Value} {Q : Exit → Act → World → Prop} (hg : op.guard = none) (sx x : Operand) (t1 t2 : TypeId) (ho : op.op = .call { callee := .builtin .append, args := #[sx, x], argTypes := #[t1, t2] })
    (hr : (Builtin.append_ #[t1, t2] op.type #[a.eval sx, a.eval x]).run Tryz.prog w = .ok v' w') (h : wpListIn F n Tryz.prog ops Q rest (a.put op.dst v') w') : wpListIn F n Tryz.prog ops Q (op :: rest) a w := by
  refine wpListIn_plain hg fun K hK => ?_
  unfold Oper.wpIn
  refine ⟨?_, ?_⟩
  · simp [Oper.about, ho, resolve, Target.leads, Sem.run_pure]
  · rw [Oper.semAt_plain F _ _ (by rw [ho]; intro c hc'; cases hc')]
    simp [execOp, ho, resolve, invoke, builtin, hr, Result.andThen]
    exact hK _ _ h
theorem wpListIn_strM {F : Fence} {n : Nat} {ops : Array Oper} {rest : List Oper} {op : Oper} {a : Act} {w : World} {Q : Exit → Act → World → Prop} (hg : op.guard = none) (sx x : Operand) (ho : op.op = .call { callee := .builtin .append, args := #[sx, x], argTypes := #[25, 9] })
    (B0 : Nat) (v : Value) (l t : B) (hs : a.eval sx = v) (hO : OwnM B0 v l w) (hx : a.eval x = .string ⟨t.toArray⟩) (hl : l.length + t.length ≤ 100000000000000) (hB : B0 ≤ w.heap.size)
    (h : ∀ v' w', OwnM B0 v' (l ++ t) w' → w.grownBy w' v.ownBlock → NewB w v v' → wpListIn F n Tryz.prog ops Q rest (a.put op.dst v') w') : wpListIn F n Tryz.prog ops Q (op :: rest) a w := by
  obtain ⟨v', w', hr, h2, h3, h4⟩ := run_strM w B0 op.type v l t hO hl hB
  exact wpListIn_ok hg sx x _ _ ho (by rw [hs, hx]; exact hr) (h v' w' h2 h3 h4)
theorem wpListIn_sliceM {F : Fence} {n : Nat} {ops : Array Oper} {rest : List Oper} {op : Oper} {a : Act} {w : World} {Q : Exit → Act → World → Prop} (hg : op.guard = none) (sx x : Operand) (ho : op.op = .call { callee := .builtin .append, args := #[sx, x], argTypes := #[25, 25] })
    (B0 : Nat) (v xv : Value) (l t : B) (hs : a.eval sx = v) (hO : OwnM B0 v l w) (hx : a.eval x = xv) (hR : BRd xv t w) (hl : l.length + t.length ≤ 100000000000000) (hB : B0 ≤ w.heap.size)
    (h : ∀ v' w', OwnM B0 v' (l ++ t) w' → w.grownBy w' v.ownBlock → NewB w v v' → wpListIn F n Tryz.prog ops Q rest (a.put op.dst v') w') : wpListIn F n Tryz.prog ops Q (op :: rest) a w := by
  obtain ⟨v', w', hr, h2, h3, h4⟩ := run_sliceM w B0 op.type v xv l t hO hR hl hB
  exact wpListIn_ok hg sx x _ _ ho (by rw [hs, hx]; exact hr) (h v' w' h2 h3 h4)
theorem to_own (s : B) (w : World) (hl : s.length ≤ 100000000000000) : ∃ c w', (convert 9 25 (sV s)).run Tryz.prog w = .ok (.slice (some ⟨w.heap.size, 0, none⟩) s.length c) w' ∧ Kept w w' ∧ OwnM w.heap.size (.slice (some ⟨w.heap.size, 0, none⟩) s.length c) s w' := by
  have h := Lib.run_convert_string_bytes (P := Tryz.prog) w 9 25 5 ⟨s.toArray⟩ Tryz.underlying9 Tryz.underlying25 Tryz.underlying5
  rw [str_lit] at h
  have hge := grownCap_ge w s.length 0 5
  have hcm : grownCap w s.length 0 5 ≤ maxLen := grownCap_le_maxLen w s.length 0 5 (by unfold maxLen; omega)
  have hsz : (Lib.bytesCells w 5 ⟨s.toArray⟩).size = grownCap w s.length 0 5 := by
    unfold Lib.bytesCells
    simp only [Array.size_append, Array.size_map, Array.size_replicate, List.size_toArray, str_lit]
    omega
  refine ⟨_, _, h, ⟨rfl, rfl, by rw [Lib.bytesWorld_size]; omega, fun k hk => Lib.bytesWorld_at_old w _ _ k hk, rfl⟩, Or.inr ⟨w.heap.size, _, _, _, rfl, Nat.le_refl _, Lib.bytesWorld_at_new w _ _, Or.inl (Nat.le_refl _), hge, hcm, hsz, ?_⟩⟩
  unfold Lib.bytesCells
  simp [byteCells, List.take_append]
end Go.Proofs.YtjlpkgipdkjfhaaGreatDoor.Bk.Hd
