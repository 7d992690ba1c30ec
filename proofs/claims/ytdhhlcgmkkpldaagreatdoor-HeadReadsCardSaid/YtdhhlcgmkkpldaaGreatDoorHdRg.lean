/- A range over a function that keeps where it stands in a box of its own, while the rounds grow rows of theirs: one law for such iterators. -/
import Derived.Test.YtdhhlcgmkkpldaaGreatDoorKept
import Derived.RangeFuncNested
import Derived.RangeFuncBound
import Derived.RangeFuncCalls
import Derived.RangeFuncLeaves
import Derived.RangeFuncOne
import Derived.Shelf.Abstract
import Derived.Shelf.RegionOpen
import Derived.OwnWalkIn
import Derived.TacticsInMore
import Derived.LoopNIn
import Derived.LoopIn
set_option linter.unusedSimpArgs false
set_option linter.unusedVariables false
namespace Go.Proofs.YtdhhlcgmkkpldaaGreatDoor.Hd
open Go.ChangeShapes Go.WideShapes Go.ChangeAt Go.RowKit Go.Shelf
/-- all that lay lies as it lay, but for some blocks, told by their numbers and by what lies in them -/
structure Save (M : Nat → Obj → Prop) (A B : World) : Prop where
  os : B.os = A.os
  output : B.output = A.output
  size : A.heap.size ≤ B.heap.size
  block : ∀ k o, A.heap[k]? = some o → ¬ M k o → B.heap[k]? = some o
  tape : B.tape = A.tape
theorem Save.refl (M : Nat → Obj → Prop) (A : World) : Save M A A := ⟨rfl, rfl, Nat.le_refl _, fun _ _ h _ => h, rfl⟩
theorem Save.trans {M : Nat → Obj → Prop} {A B C : World} (h : Save M A B) (k : Save M B C) : Save M A C :=
  ⟨k.os.trans h.os, k.output.trans h.output, Nat.le_trans h.size k.size, fun i o hi hm => k.block i o (h.block i o hi hm) hm, k.tape.trans h.tape⟩
theorem Save.mono {M M' : Nat → Obj → Prop} {A B : World} (h : Save M A B) (hm : ∀ k o, A.heap[k]? = some o → M k o → M' k o) : Save M' A B :=
  ⟨h.os, h.output, h.size, fun k o hk hn => h.block k o hk (fun q => hn (hm k o hk q)), h.tape⟩
theorem at_some {A : World} {k : Nat} (h : k < A.heap.size) : ∃ o, A.heap[k]? = some o := ⟨_, Array.getElem?_eq_getElem h⟩
theorem Save.of_kept {A B : World} (M : Nat → Obj → Prop) (h : Kept A B) : Save M A B := ⟨h.os, h.output, h.size, fun k o hk _ => (h.block k (Array.getElem?_eq_some_iff.1 hk).1).trans hk, h.tape⟩
theorem Save.kept {M : Nat → Obj → Prop} {A B : World} (h : Save M A B) (hm : ∀ k o, A.heap[k]? = some o → ¬ M k o) : Kept A B := ⟨h.os, h.output, h.size, fun k hk => by
  obtain ⟨o, ho⟩ := at_some hk
  rw [ho]; exact h.block k o ho (hm k o ho), h.tape⟩
theorem Save.below {M : Nat → Obj → Prop} {A B : World} (h : Save M A B) {n : Nat} (hn : n ≤ A.heap.size) (hm : ∀ k o, A.heap[k]? = some o → M k o → n ≤ k) : Below n A B :=
  ⟨h.os, h.tape, h.output, h.size, fun k hk => by
    obtain ⟨o, ho⟩ := at_some (show k < A.heap.size by omega)
    rw [ho]; exact h.block k o ho (fun q => by have := hm k o ho q; omega)⟩
theorem Save.put {A : World} {r : Nat} (o : Obj) {M : Nat → Obj → Prop} (hM : ∀ o', A.heap[r]? = some o' → M r o') : Save M A (A.putObj r o) :=
  ⟨rfl, rfl, by simp, fun k o' hk hn => by
    rw [World.putObj_heap_other (fun e => hn (by subst e; exact hM _ hk))]; exact hk, rfl⟩
theorem Save.set {A : World} {p : Addr} (v : Value) {M : Nat → Obj → Prop} (hM : ∀ o', A.heap[p.block]? = some o' → M p.block o') : Save M A (A.setCell p v) :=
  ⟨rfl, rfl, by simp [World.setCell], fun k o' hk hn => by
    rw [Below.heap_setCell _ _ _ _ (fun e => hn (by subst e; exact hM _ hk))]; exact hk, rfl⟩
/-- what lies in a block that is none of those lies on -/
theorem Save.at {M : Nat → Obj → Prop} {A B : World} (h : Save M A B) {b : Nat} {o : Obj} (hb : A.heap[b]? = some o) (hm : ¬ M b o) : B.heap[b]? = some o := h.block b o hb hm
theorem yield_any {n m : Nat} {P : Program} {l : Nat} {args : Array Value} {W : World} {R : Ending → World → Prop} (h : YieldAt Fence.wide n P l args W R) : YieldAt Fence.wide m P l args W R := by
  obtain ⟨fn, tmps, assign, body, hy, hR⟩ := h
  exact ⟨fn, tmps, assign, body, hy, hR.1, fun c cs _ => hR.2 c cs (room_wide _)⟩
/-- what a function to range over does: step by step, told by a state of its own; the blocks T are its own, the blocks R it reads: no round turns them -/
def Itr {σ : Type} (P : Program) (g : Nat) (lb : Array Value) (Step : σ → Array Value → σ → Prop) (End : σ → Prop) (s0 : σ) (T R : Nat → Prop) (cap : World → Prop) : Prop :=
  ∀ (n l : Nat) (M : Nat → Obj → Prop) (J Jx : σ → World → Prop) (W : World), cap W → (∀ k o, M k o → ¬ T k ∧ ¬ R k) →
    (∀ s A B, J s A → Save (fun k _ => T k) A B → J s B) → (∀ s A B, Jx s A → Save (fun k _ => T k) A B → Jx s B) →
    (∀ s a s' W1, Step s a s' → J s W1 → YieldAt Fence.wide n P l a W1 fun e W' => Save M W1 W' ∧ ((e = .returned (.bool true) ∧ J s' W') ∨ (e = .returned (.bool false) ∧ Jx s' W'))) →
    J s0 W →
    CallsIn Fence.wide n P g (#[.func (.yield l) #[] #[]] ++ lb) W fun e W' => (∃ v, e = .returned v) ∧ Save (fun k o => M k o ∨ T k) W W' ∧ ((∃ s, End s ∧ J s W') ∨ (∃ s, Jx s W'))
/-- what the iterator and the loop turn by themselves -/
def Itn (T : Nat → Prop) (n : Nat) (k : Nat) (o : Obj) : Prop := T k ∨ (n ≤ k ∧ o.isCells = false)
/-- how a round's body may be left -/
def rgPost {σ : Type} (M : Nat → Obj → Prop) (I : σ → World → Prop) (Ix : Code → σ → World → Prop) (s : σ) (W : World) : Exit → Act → World → Prop
  | .normal, _, W' => Save M W W' ∧ I s W'
  | .ret, _, W' => Save M W W' ∧ Ix .ret s W'
  | .exit id, _, W' => Save M W W' ∧ Ix (.exit id) s W'
  | .goto t, _, W' => Save M W W' ∧ Ix (.goto t) s W'
  | .panic _, _, _ => False
  | .outgrown, _, _ => False
theorem range_itr {σ : Type} {P : Program} {n : Nat} {g : Operand} {ps : Array Tmp} {assign body : Code} {Q : Exit → Act → World → Prop} {a : Act} {w : World}
    {gf : Nat} {lb : Array Value} (hg : a.eval g = .func (.func gf) #[] lb) (eg : ∀ args w, (callFunc gf args).run P w = .ok (.enter gf args) w)
    {Step : σ → Array Value → σ → Prop} {End : σ → Prop} {s0 : σ} {T R : Nat → Prop} {cap : World → Prop} (hT : ∀ k, T k → k < w.heap.size) (hRd : ∀ k, R k → k < w.heap.size) (hit : Itr P gf lb Step End s0 T R cap)
    (hps : ∀ s arr s', Step s arr s' → arr.size = ps.size) (M : Nat → Obj → Prop) (hM : ∀ k o, M k o → (¬ T k ∧ ¬ R k) ∧ o.isCells = true)
    (hcap : cap w) (hcapK : ∀ A B, Kept A B → cap A → cap B)
    (I : σ → World → Prop) (Ix : Code → σ → World → Prop) (hI : ∀ s A B, I s A → Save (Itn T w.heap.size) A B → I s B) (hIx : ∀ c s A B, Ix c s A → Save (Itn T w.heap.size) A B → Ix c s B) (h0 : I s0 w)
    (hround : ∀ (l : Nat) (s : σ) (arr : Array Value) (s' : σ) (W : World), Step s arr s' → I s W → w.heap.size + 1 < W.heap.size → ∀ K : Act → World → Prop,
      (∀ a' W', Kept W W' → (∀ W2, Save (fun k _ => k = w.heap.size + 1) W' W2 → Save (Itn T w.heap.size) W' W2 → body.wpIn (Fence.wide.inRound l) (n - 1) P (rgPost M I Ix s' W2) a' W2) → K a' W') →
      assign.wpIn (Fence.wide.inRound l) (n - 1) P (Exit.then K (fun _ _ _ => False)) { tmps := (ps.zip arr).foldl (fun t (p, v) => t.setIfInBounds p v) a.tmps, defers := [] } W)
    (hdone : ∀ (s : σ) (W : World), End s → I s W → Save (fun k o => M k o ∨ T k) w W → W.heap[w.heap.size]? = some (.deferred (some [])) → Q .normal { a with defers := { target := .collected w.heap.size, args := #[] } :: a.defers } W)
    (hstop : ∀ (c : Code) (s : σ) (W : World), Ix c s W → Save (fun k o => M k o ∨ T k) w W → W.heap[w.heap.size]? = some (.deferred (some [])) → c.wpIn Fence.wide n P Q { a with defers := { target := .collected w.heap.size, args := #[] } :: a.defers } W) :
    (Code.rangeFunc g ps assign body).wpIn Fence.wide n P Q a w := by
  refine wpIn_rangeFunc (fun fn hfn => ?_)
  generalize hr : (fun (st : LoopState) (pe : Option Code) => ({ state := st, pending := pe, fn, tmps := a.tmps, params := ps, assign, body, defers := w.heap.size } : Loop)) = rc
  have rcE : ∀ st pe, rc st pe = { state := st, pending := pe, fn, tmps := a.tmps, params := ps, assign, body, defers := w.heap.size } := fun st pe => by rw [← hr]
  have k0 : Kept w ((w.alloc (.deferred (some []))).alloc (.loop (rc .ready none))) := ((Kept.refl w).alloc _).alloc _
  have b0 : ((w.alloc (.deferred (some []))).alloc (.loop (rc .ready none))).heap[w.heap.size]? = some (.deferred (some [])) :=
    (Below.heap_alloc _ _ _ (by simp)).trans (World.alloc_heap_new w _)
  have b1 : ((w.alloc (.deferred (some []))).alloc (.loop (rc .ready none))).heap[w.heap.size + 1]? = some (.loop (rc .ready none)) := by
    have := World.alloc_heap_new (w.alloc (.deferred (some []))) (.loop (rc .ready none)); rwa [World.size_alloc] at this
  have s0' : ((w.alloc (.deferred (some []))).alloc (.loop (rc .ready none))).heap.size = w.heap.size + 2 := by simp
  have he : (Instr.enterLoop fn a.tmps ps assign body Fence.wide.round).run P w = .ok (w.heap.size + 1, [{ target := .collected w.heap.size, args := #[] }]) ((w.alloc (.deferred (some []))).alloc (.loop (rc .ready none))) := by
    rw [rcE]; exact run_enterLoop_outer _ _ _ _ _
  generalize (w.alloc (.deferred (some []))).alloc (.loop (rc .ready none)) = X at *
  refine ⟨w.heap.size + 1, _, X, { target := .fn (.func gf) lb, args := #[.func (.yield (w.heap.size + 1)) #[] #[]] }, X, gf, #[.func (.yield (w.heap.size + 1)) #[] #[]] ++ lb, X, he, ?_, fun _ _ => trivial, ?_, fun h => by simp [Fence.wide] at h, ?_⟩
  · simp only [resolve, hg]
    simp [go_sem]
  · simp [invoke, go_sem, eg]
  have own : ∀ k o, (M k o ∨ k = w.heap.size + 1) → ¬ T k ∧ ¬ R k := fun k o hk => by
    rcases hk with h | h
    · exact (hM k o h).1
    · exact ⟨fun hq => by have := hT k hq; omega, fun hq => by have := hRd k hq; omega⟩
  have nT1 : ¬ T (w.heap.size + 1) := fun h => by have := hT _ h; omega
  have nT0 : ¬ T w.heap.size := fun h => by have := hT _ h; omega
  refine (hit (n - 1) (w.heap.size + 1) (fun k o => M k o ∨ k = w.heap.size + 1)
    (fun s W => I s W ∧ W.heap[w.heap.size + 1]? = some (.loop (rc .ready none)) ∧ W.heap[w.heap.size]? = some (.deferred (some [])) ∧ X.heap.size ≤ W.heap.size)
    (fun s W => ∃ c, Ix c s W ∧ W.heap[w.heap.size + 1]? = some (.loop (rc .done (some c))) ∧ W.heap[w.heap.size]? = some (.deferred (some [])))
    X (hcapK _ _ k0 hcap) own
    (fun s A B h k => ⟨hI s A B h.1 (k.mono (fun _ _ _ q => Or.inl q)), k.block _ _ h.2.1 nT1, k.block _ _ h.2.2.1 nT0, Nat.le_trans h.2.2.2 k.size⟩)
    (fun s A B ⟨c, h1, h2, h3⟩ k => ⟨c, hIx c s A B h1 (k.mono (fun _ _ _ q => Or.inl q)), k.block _ _ h2 nT1, k.block _ _ h3 nT0⟩)
    ?_ ⟨hI s0 w X h0 (Save.of_kept _ k0), b1, b0, Nat.le_refl _⟩).mono ?_
  · -- one round
    rintro s arr s' W hst ⟨hi, hl, hd, hsz⟩
    have hy := run_yield (P := P) (args := arr) hl (by rw [rcE]; exact hps s arr s' hst)
    rw [rcE] at hy
    refine ⟨fn, _, assign, body, hy, roundIn_of_wpIn hfn (hround _ s arr s' W hst hi (by omega) _ (fun a' W' k' hb => ?_))⟩
    have hl' : W'.heap[w.heap.size + 1]? = some (.loop (rc .ready none)) := (k'.block _ (by omega)).trans hl
    have hd' : W'.heap[w.heap.size]? = some (.deferred (some [])) := (k'.block _ (by omega)).trans hd
    refine ⟨_, run_beginRound hl' (by rw [rcE]), ?_⟩
    have hk' := k'.size
    have hl2 : (W'.putObj (w.heap.size + 1) (.loop { rc .ready none with state := .busy })).heap[w.heap.size + 1]? = some (.loop { rc .ready none with state := .busy }) := World.putObj_heap_same (by omega)
    have hd2 : (W'.putObj (w.heap.size + 1) (.loop { rc .ready none with state := .busy })).heap[w.heap.size]? = some (.deferred (some [])) := (World.putObj_heap_other (by omega)).trans hd'
    have v1 : Save (fun k o => M k o ∨ k = w.heap.size + 1) W (W'.putObj (w.heap.size + 1) (.loop { rc .ready none with state := .busy })) := (Save.of_kept _ k').trans (Save.put _ (fun _ _ => Or.inr rfl))
    have hs2 : (W'.putObj (w.heap.size + 1) (.loop { rc .ready none with state := .busy })).heap.size = W'.heap.size := by simp
    refine wpIn_mono (hb _ (Save.put _ (fun _ _ => rfl)) (Save.put _ (fun o2 h2 => Or.inr ⟨by omega, by rw [hl'] at h2; cases h2; rfl⟩))) ?_
    generalize W'.putObj (w.heap.size + 1) (.loop { rc .ready none with state := .busy }) = W2 at *
    have fin : ∀ (jump : Option Code) (W3 : World), Save M W2 W3 → ∃ W4, (Instr.endRound (w.heap.size + 1) jump).run P W3 = .ok (.bool jump.isNone) W4 ∧ Save (fun k o => M k o ∨ k = w.heap.size + 1) W W4 ∧ Save (Itn T w.heap.size) W3 W4 ∧ W3.heap.size ≤ W4.heap.size ∧
        W4.heap[w.heap.size + 1]? = some (.loop (rc (if jump.isNone then .ready else .done) jump)) ∧ W4.heap[w.heap.size]? = some (.deferred (some [])) := fun jump W3 v3 => by
      have q1 : ¬ M (w.heap.size + 1) (.loop { rc .ready none with state := .busy }) := fun h => by
        exact Bool.noConfusion (show false = true from (hM _ _ h).2)
      have q0 : ¬ M w.heap.size (.deferred (some [])) := fun h => by
        exact Bool.noConfusion (show false = true from (hM _ _ h).2)
      have hl3 := v3.at hl2 q1
      have hd3 := v3.at hd2 q0
      have hlt3 := (Array.getElem?_eq_some_iff.1 hl3).1
      have := run_endRound (P := P) jump hl3
      refine ⟨_, this, v1.trans ((v3.mono (fun k o _ h => Or.inl h)).trans (Save.put _ (fun _ _ => Or.inr rfl))), Save.put _ (fun o2 h2 => Or.inr ⟨by omega, by rw [hl3] at h2; cases h2; rfl⟩), by simp, ?_, (World.putObj_heap_other (by omega)).trans hd3⟩
      rw [World.putObj_heap_same hlt3, rcE, rcE]
    rintro e a3 W3 hp
    cases e with
    | normal =>
      obtain ⟨v3, hi3⟩ := hp
      obtain ⟨W4, hr4, v4, b4, z4, l4, d4⟩ := fin none W3 v3
      exact ⟨_, W4, hr4, v4, .inl ⟨rfl, hI s' W3 W4 hi3 b4, l4, d4, by have := v3.size; omega⟩⟩
    | ret =>
      obtain ⟨v3, hi3⟩ := hp
      obtain ⟨W4, hr4, v4, b4, z4, l4, d4⟩ := fin (some .ret) W3 v3
      exact ⟨_, W4, hr4, v4, .inr ⟨rfl, .ret, hIx _ s' W3 W4 hi3 b4, l4, d4⟩⟩
    | exit id =>
      obtain ⟨v3, hi3⟩ := hp
      obtain ⟨W4, hr4, v4, b4, z4, l4, d4⟩ := fin (some (.exit id)) W3 v3
      exact ⟨_, W4, hr4, v4, .inr ⟨rfl, .exit id, hIx _ s' W3 W4 hi3 b4, l4, d4⟩⟩
    | goto t =>
      obtain ⟨v3, hi3⟩ := hp
      obtain ⟨W4, hr4, v4, b4, z4, l4, d4⟩ := fin (some (.goto t)) W3 v3
      exact ⟨_, W4, hr4, v4, .inr ⟨rfl, .goto t, hIx _ s' W3 W4 hi3 b4, l4, d4⟩⟩
    | panic ch => exact hp.elim
    | outgrown => exact hp.elim
  · -- behind it
    have back : ∀ W2, Save (fun k o => (M k o ∨ k = w.heap.size + 1) ∨ T k) X W2 → ∀ o, Save (fun k o => M k o ∨ T k) w (W2.putObj (w.heap.size + 1) o) := fun W2 v o =>
      ⟨v.os.trans k0.os, v.output.trans k0.output, by have := v.size; simp; omega, fun k o' hk hm => by
        have hlt := (Array.getElem?_eq_some_iff.1 hk).1
        exact (World.putObj_heap_other (by omega)).trans (v.block k o' ((k0.block k hlt).trans hk) (fun q => by rcases q with (q | q) | q; (· exact hm (Or.inl q)); (· omega); (· exact hm (Or.inr q)))), v.tape.trans k0.tape⟩
    rintro e W2 ⟨⟨v, rfl⟩, vs, ⟨s, hE, hi, hl, hd, -⟩ | ⟨s, c, hi, hl, hd⟩⟩
    · have hlt := (Array.getElem?_eq_some_iff.1 hl).1
      have hz := vs.size
      refine ⟨none, _, by have := run_endLoop (P := P) hl (by rw [rcE]; simp); rw [rcE] at this; exact this, hdone s _ hE (hI s W2 _ hi ?_) (back W2 vs _) ((World.putObj_heap_other (by omega)).trans hd)⟩
      exact Save.put _ (fun o2 h2 => Or.inr ⟨by omega, by rw [hl] at h2; cases h2; rfl⟩)
    · have hlt := (Array.getElem?_eq_some_iff.1 hl).1
      have hz := vs.size
      refine ⟨some c, _, by have := run_endLoop (P := P) hl (by rw [rcE]; simp); rw [rcE] at this; exact this, hstop c s _ (hIx c s W2 _ hi ?_) (back W2 vs _) ((World.putObj_heap_other (by omega)).trans hd)⟩
      exact Save.put _ (fun o2 h2 => Or.inr ⟨by omega, by rw [hl] at h2; cases h2; rfl⟩)
end Go.Proofs.YtdhhlcgmkkpldaaGreatDoor.Hd
