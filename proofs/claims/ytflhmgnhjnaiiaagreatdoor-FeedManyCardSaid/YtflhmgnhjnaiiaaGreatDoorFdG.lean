/- Several texts of this seat, one behind the other. -/
import Derived.Test.YtflhmgnhjnaiiaaGreatDoorKept
import Derived.RangeFuncNested
import Derived.RangeFuncBound
import Derived.RangeFuncCalls
import Derived.RangeFuncLeaves
import Derived.RangeFuncOne
import Derived.Shelf.Abstract
import Derived.Shelf.RegionOpen
import Derived.OwnWalkIn
import Derived.TacticsInMore
import Derived.LoopNIn
import Derived.LoopIn
import Derived.Sort.QuietIn
set_option linter.unusedSimpArgs false
/- A range over a function whose rounds write blocks named ahead: one law for iterators that range over iterators themselves. -/
set_option linter.unusedVariables false
namespace Go.Proofs.YtflhmgnhjnaiiaaGreatDoor.Fd
open Go.ChangeShapes Go.WideShapes Go.ChangeAt Go.RowKit Go.Shelf
/-- all that lay lies as it lay, but for some blocks, told by their numbers and by what lies in them -/
structure Save (M : Nat → Obj → Prop) (A B : World) : Prop where
  os : B.os = A.os
  output : B.output = A.output
  size : A.heap.size ≤ B.heap.size
  block : ∀ k o, A.heap[k]? = some o → ¬ M k o → B.heap[k]? = some o
  tape : B.tape = A.tape
theorem Save.refl (M : Nat → Obj → Prop) (A : World) : Save M A A := ⟨rfl, rfl, Nat.le_refl _, fun _ _ h _ => h, rfl⟩
theorem Save.trans {M : Nat → Obj → Prop} {A B C : World} (h : Save M A B) (k : Save M B C) : Save M A C :=
  ⟨k.os.trans h.os, k.output.trans h.output, Nat.le_trans h.size k.size, fun i o hi hm => k.block i o (h.block i o hi hm) hm, k.tape.trans h.tape⟩
theorem Save.mono {M M' : Nat → Obj → Prop} {A B : World} (h : Save M A B) (hm : ∀ k o, A.heap[k]? = some o → M k o → M' k o) : Save M' A B :=
  ⟨h.os, h.output, h.size, fun k o hk hn => h.block k o hk (fun q => hn (hm k o hk q)), h.tape⟩
theorem at_some {A : World} {k : Nat} (h : k < A.heap.size) : ∃ o, A.heap[k]? = some o := ⟨_, Array.getElem?_eq_getElem h⟩
theorem Save.of_kept {A B : World} (M : Nat → Obj → Prop) (h : Kept A B) : Save M A B := ⟨h.os, h.output, h.size, fun k o hk _ => (h.block k (Array.getElem?_eq_some_iff.1 hk).1).trans hk, h.tape⟩
theorem Save.kept {M : Nat → Obj → Prop} {A B : World} (h : Save M A B) (hm : ∀ k o, A.heap[k]? = some o → ¬ M k o) : Kept A B := ⟨h.os, h.output, h.size, fun k hk => by
  obtain ⟨o, ho⟩ := at_some hk
  rw [ho]; exact h.block k o ho (hm k o ho), h.tape⟩
theorem Save.below {M : Nat → Obj → Prop} {A B : World} (h : Save M A B) {n : Nat} (hn : n ≤ A.heap.size) (hm : ∀ k o, A.heap[k]? = some o → M k o → n ≤ k) : Below n A B :=
  ⟨h.os, h.tape, h.output, h.size, fun k hk => by
    obtain ⟨o, ho⟩ := at_some (show k < A.heap.size by omega)
    rw [ho]; exact h.block k o ho (fun q => by have := hm k o ho q; omega)⟩
theorem Save.put {A : World} {r : Nat} (o : Obj) {M : Nat → Obj → Prop} (hM : ∀ o', A.heap[r]? = some o' → M r o') : Save M A (A.putObj r o) :=
  ⟨rfl, rfl, by simp, fun k o' hk hn => by
    rw [World.putObj_heap_other (fun e => hn (by subst e; exact hM _ hk))]; exact hk, rfl⟩
theorem Save.set {A : World} {p : Addr} (v : Value) {M : Nat → Obj → Prop} (hM : ∀ o', A.heap[p.block]? = some o' → M p.block o') : Save M A (A.setCell p v) :=
  ⟨rfl, rfl, by simp [World.setCell], fun k o' hk hn => by
    rw [Below.heap_setCell _ _ _ _ (fun e => hn (by subst e; exact hM _ hk))]; exact hk, rfl⟩
/-- what lies in a block that is none of those lies on -/
theorem Save.at {M : Nat → Obj → Prop} {A B : World} (h : Save M A B) {b : Nat} {o : Obj} (hb : A.heap[b]? = some o) (hm : ¬ M b o) : B.heap[b]? = some o := h.block b o hb hm
/-- what a function to range over turns by itself: blocks from one on, and no rows of that type -/
def Fwd (E : TypeId) (n : Nat) (A B : World) : Prop := Save (fun k o => n ≤ k ∧ ¬ ∃ c fz, o = .cells c E fz) A B
theorem Fwd.mono {E : TypeId} {n m : Nat} {A B : World} (h : Fwd E n A B) (hm : m ≤ n) : Fwd E m A B := Save.mono h (fun k o _ q => ⟨by omega, q.2⟩)
theorem Fwd.of_kept {E : TypeId} {n : Nat} {A B : World} (k : Kept A B) : Fwd E n A B := Save.of_kept _ k
theorem Fwd.trans {E : TypeId} {n : Nat} {A B C : World} (h : Fwd E n A B) (k : Fwd E n B C) : Fwd E n A C := Save.trans h k
theorem Fwd.put {E : TypeId} {n r : Nat} {A : World} {o o' : Obj} (hr : A.heap[r]? = some o) (hn : n ≤ r) (ho : ∀ c fz, o ≠ .cells c E fz) : Fwd E n A (A.putObj r o') :=
  Save.put _ (fun o2 h2 => ⟨hn, fun ⟨c, fz, q⟩ => by rw [hr] at h2; cases h2; exact ho c fz q⟩)
theorem Fwd.below {E : TypeId} {n : Nat} {A B : World} (h : Fwd E n A B) (hn : n ≤ A.heap.size) : Below n A B := Save.below h hn (fun k o _ q => q.1)
/-- which blocks a round may turn: from one on, some of those that lay when the function was called, and rows of one type -/
def Mok (E : TypeId) (B : Nat) (M : Nat → Obj → Prop) (n : Nat) : Prop := ∀ k o, M k o → B ≤ k ∧ (k < n ∨ ∃ c fz, o = .cells c E fz)
theorem Mok.mono {E : TypeId} {B n m : Nat} {M : Nat → Obj → Prop} (h : Mok E B M n) (hm : n ≤ m) : Mok E B M m := fun k o q => ⟨(h k o q).1, (h k o q).2.imp (fun r => by omega) id⟩
theorem yield_any {n m : Nat} {P : Program} {l : Nat} {args : Array Value} {W : World} {R : Ending → World → Prop} (h : YieldAt Fence.wide n P l args W R) : YieldAt Fence.wide m P l args W R := by
  obtain ⟨fn, tmps, assign, body, hy, hR⟩ := h
  exact ⟨fn, tmps, assign, body, hy, hR.1, fun c cs _ => hR.2 c cs (room_wide _)⟩
/-- what a function to range over does: step by step, told by a state of its own; what the rounds may turn is named when it is called -/
def Itr {σ : Type} (E : TypeId) (B : Nat) (P : Program) (g : Nat) (lb : Array Value) (Step : σ → Array Value → σ → Prop) (End : σ → Prop) (s0 : σ) (cap : World → Prop) : Prop :=
  ∀ (n l : Nat) (M : Nat → Obj → Prop) (J Jx : σ → World → Prop) (W : World), cap W → Mok E B M W.heap.size → (∀ A B, Save M A B → cap A → cap B) →
    (∀ s A B, J s A → Fwd E W.heap.size A B → J s B) → (∀ s A B, Jx s A → Fwd E W.heap.size A B → Jx s B) →
    (∀ s a s' W1, Step s a s' → J s W1 → YieldAt Fence.wide n P l a W1 fun e W' => Save M W1 W' ∧ ((e = .returned (.bool true) ∧ J s' W') ∨ (e = .returned (.bool false) ∧ Jx s' W'))) →
    J s0 W →
    CallsIn Fence.wide n P g (#[.func (.yield l) #[] #[]] ++ lb) W fun e W' => (∃ v, e = .returned v) ∧ Save M W W' ∧ ((∃ s, End s ∧ J s W') ∨ (∃ s, Jx s W'))
/-- how a round's body may be left -/
def rgPost {σ : Type} (M : Nat → Obj → Prop) (I : σ → World → Prop) (Ix : Code → σ → World → Prop) (s : σ) (W : World) : Exit → Act → World → Prop
  | .normal, _, W' => Save M W W' ∧ I s W'
  | .ret, _, W' => Save M W W' ∧ Ix .ret s W'
  | .exit id, _, W' => Save M W W' ∧ Ix (.exit id) s W'
  | .goto t, _, W' => Save M W W' ∧ Ix (.goto t) s W'
  | .panic _, _, _ => False
  | .outgrown, _, _ => False
theorem range_itr {σ : Type} {E : TypeId} {B : Nat} {P : Program} {n : Nat} {g : Operand} {ps : Array Tmp} {assign body : Code} {Q : Exit → Act → World → Prop} {a : Act} {w : World}
    {gf : Nat} {lb : Array Value} (hg : a.eval g = .func (.func gf) #[] lb) (eg : ∀ args w, (callFunc gf args).run P w = .ok (.enter gf args) w)
    {Step : σ → Array Value → σ → Prop} {End : σ → Prop} {s0 : σ} {cap : World → Prop} (hB : B ≤ w.heap.size) (hit : Itr E B P gf lb Step End s0 cap)
    (hps : ∀ s arr s', Step s arr s' → arr.size = ps.size) (M : Nat → Obj → Prop) (hM : Mok E B M w.heap.size)
    (hcap : cap w) (hcapM : ∀ A B, Save (fun k o => M k o ∨ w.heap.size ≤ k) A B → cap A → cap B)
    (I : σ → World → Prop) (Ix : Code → σ → World → Prop) (hI : ∀ s A B, I s A → Fwd E w.heap.size A B → I s B) (hIx : ∀ c s A B, Ix c s A → Fwd E w.heap.size A B → Ix c s B) (h0 : I s0 w)
    (hround : ∀ (l : Nat) (s : σ) (arr : Array Value) (s' : σ) (W : World), Step s arr s' → I s W → w.heap.size + 1 < W.heap.size → ∀ K : Act → World → Prop,
      (∀ a' W', Kept W W' → (∀ W2, Save (fun k _ => k = w.heap.size + 1) W' W2 → Fwd E w.heap.size W' W2 → body.wpIn (Fence.wide.inRound l) (n - 1) P (rgPost M I Ix s' W2) a' W2) → K a' W') →
      assign.wpIn (Fence.wide.inRound l) (n - 1) P (Exit.then K (fun _ _ _ => False)) { tmps := (ps.zip arr).foldl (fun t (p, v) => t.setIfInBounds p v) a.tmps, defers := [] } W)
    (hdone : ∀ (s : σ) (W : World), End s → I s W → Save M w W → W.heap[w.heap.size]? = some (.deferred (some [])) → Q .normal { a with defers := { target := .collected w.heap.size, args := #[] } :: a.defers } W)
    (hstop : ∀ (c : Code) (s : σ) (W : World), Ix c s W → Save M w W → W.heap[w.heap.size]? = some (.deferred (some [])) → c.wpIn Fence.wide n P Q { a with defers := { target := .collected w.heap.size, args := #[] } :: a.defers } W) :
    (Code.rangeFunc g ps assign body).wpIn Fence.wide n P Q a w := by
  refine wpIn_rangeFunc (fun fn hfn => ?_)
  generalize hr : (fun (st : LoopState) (pe : Option Code) => ({ state := st, pending := pe, fn, tmps := a.tmps, params := ps, assign, body, defers := w.heap.size } : Loop)) = rc
  have rcE : ∀ st pe, rc st pe = { state := st, pending := pe, fn, tmps := a.tmps, params := ps, assign, body, defers := w.heap.size } := fun st pe => by rw [← hr]
  have k0 : Kept w ((w.alloc (.deferred (some []))).alloc (.loop (rc .ready none))) := ((Kept.refl w).alloc _).alloc _
  have b0 : ((w.alloc (.deferred (some []))).alloc (.loop (rc .ready none))).heap[w.heap.size]? = some (.deferred (some [])) :=
    (Below.heap_alloc _ _ _ (by simp)).trans (World.alloc_heap_new w _)
  have b1 : ((w.alloc (.deferred (some []))).alloc (.loop (rc .ready none))).heap[w.heap.size + 1]? = some (.loop (rc .ready none)) := by
    have := World.alloc_heap_new (w.alloc (.deferred (some []))) (.loop (rc .ready none)); rwa [World.size_alloc] at this
  have s0' : ((w.alloc (.deferred (some []))).alloc (.loop (rc .ready none))).heap.size = w.heap.size + 2 := by simp
  have he : (Instr.enterLoop fn a.tmps ps assign body Fence.wide.round).run P w = .ok (w.heap.size + 1, [{ target := .collected w.heap.size, args := #[] }]) ((w.alloc (.deferred (some []))).alloc (.loop (rc .ready none))) := by
    rw [rcE]; exact run_enterLoop_outer _ _ _ _ _
  generalize (w.alloc (.deferred (some []))).alloc (.loop (rc .ready none)) = X at *
  refine ⟨w.heap.size + 1, _, X, { target := .fn (.func gf) lb, args := #[.func (.yield (w.heap.size + 1)) #[] #[]] }, X, gf, #[.func (.yield (w.heap.size + 1)) #[] #[]] ++ lb, X, he, ?_, fun _ _ => trivial, ?_, fun h => by simp [Fence.wide] at h, ?_⟩
  · simp only [resolve, hg]
    simp [go_sem]
  · simp [invoke, go_sem, eg]
  have own : Mok E B (fun k o => M k o ∨ k = w.heap.size + 1) X.heap.size := fun k o hk => by
    rcases hk with h | h
    · obtain ⟨r, q | q⟩ := hM k o h
      · exact ⟨r, Or.inl (by omega)⟩
      · exact ⟨r, Or.inr q⟩
    · exact ⟨by omega, Or.inl (by omega)⟩
  refine (hit (n - 1) (w.heap.size + 1) (fun k o => M k o ∨ k = w.heap.size + 1)
    (fun s W => I s W ∧ W.heap[w.heap.size + 1]? = some (.loop (rc .ready none)) ∧ W.heap[w.heap.size]? = some (.deferred (some [])) ∧ X.heap.size ≤ W.heap.size)
    (fun s W => ∃ c, Ix c s W ∧ W.heap[w.heap.size + 1]? = some (.loop (rc .done (some c))) ∧ W.heap[w.heap.size]? = some (.deferred (some [])))
    X (hcapM _ _ (Save.of_kept _ k0) hcap) own (fun A B h hc => hcapM A B (h.mono (fun k o _ q => q.imp id (fun e => by omega))) hc)
    (fun s A B h k => ⟨hI s A B h.1 (k.mono (by omega)), k.block _ _ h.2.1 (fun q => by omega), k.block _ _ h.2.2.1 (fun q => by omega), Nat.le_trans h.2.2.2 k.size⟩)
    (fun s A B ⟨c, h1, h2, h3⟩ k => ⟨c, hIx c s A B h1 (k.mono (by omega)), k.block _ _ h2 (fun q => by omega), k.block _ _ h3 (fun q => by omega)⟩)
    ?_ ⟨hI s0 w X h0 (Fwd.of_kept k0), b1, b0, Nat.le_refl _⟩).mono ?_
  · -- one round
    rintro s arr s' W hst ⟨hi, hl, hd, hsz⟩
    have hy := run_yield (P := P) (args := arr) hl (by rw [rcE]; exact hps s arr s' hst)
    rw [rcE] at hy
    refine ⟨fn, _, assign, body, hy, roundIn_of_wpIn hfn (hround _ s arr s' W hst hi (by omega) _ (fun a' W' k' hb => ?_))⟩
    have hl' : W'.heap[w.heap.size + 1]? = some (.loop (rc .ready none)) := (k'.block _ (by omega)).trans hl
    have hd' : W'.heap[w.heap.size]? = some (.deferred (some [])) := (k'.block _ (by omega)).trans hd
    refine ⟨_, run_beginRound hl' (by rw [rcE]), ?_⟩
    have hk' := k'.size
    have hl2 : (W'.putObj (w.heap.size + 1) (.loop { rc .ready none with state := .busy })).heap[w.heap.size + 1]? = some (.loop { rc .ready none with state := .busy }) := World.putObj_heap_same (by omega)
    have hd2 : (W'.putObj (w.heap.size + 1) (.loop { rc .ready none with state := .busy })).heap[w.heap.size]? = some (.deferred (some [])) := (World.putObj_heap_other (by omega)).trans hd'
    have v1 : Save (fun k o => M k o ∨ k = w.heap.size + 1) W (W'.putObj (w.heap.size + 1) (.loop { rc .ready none with state := .busy })) := (Save.of_kept _ k').trans (Save.put _ (fun _ _ => Or.inr rfl))
    have hs2 : (W'.putObj (w.heap.size + 1) (.loop { rc .ready none with state := .busy })).heap.size = W'.heap.size := by simp
    refine wpIn_mono (hb _ (Save.put _ (fun _ _ => rfl)) (Fwd.put hl' (by omega) (fun _ _ q => by cases q))) ?_
    generalize W'.putObj (w.heap.size + 1) (.loop { rc .ready none with state := .busy }) = W2 at *
    have fin : ∀ (jump : Option Code) (W3 : World), Save M W2 W3 → ∃ W4, (Instr.endRound (w.heap.size + 1) jump).run P W3 = .ok (.bool jump.isNone) W4 ∧ Save (fun k o => M k o ∨ k = w.heap.size + 1) W W4 ∧ Fwd E w.heap.size W3 W4 ∧ W3.heap.size ≤ W4.heap.size ∧
        W4.heap[w.heap.size + 1]? = some (.loop (rc (if jump.isNone then .ready else .done) jump)) ∧ W4.heap[w.heap.size]? = some (.deferred (some [])) := fun jump W3 v3 => by
      have q1 : ¬ M (w.heap.size + 1) (.loop { rc .ready none with state := .busy }) := fun h => by
        obtain ⟨_, q | ⟨_, _, q⟩⟩ := hM _ _ h
        · omega
        · cases q
      have q0 : ¬ M w.heap.size (.deferred (some [])) := fun h => by
        obtain ⟨_, q | ⟨_, _, q⟩⟩ := hM _ _ h
        · omega
        · cases q
      have hl3 := v3.at hl2 q1
      have hd3 := v3.at hd2 q0
      have hlt3 := (Array.getElem?_eq_some_iff.1 hl3).1
      have := run_endRound (P := P) jump hl3
      refine ⟨_, this, v1.trans ((v3.mono (fun k o _ h => Or.inl h)).trans (Save.put _ (fun _ _ => Or.inr rfl))), Fwd.put hl3 (by omega) (fun _ _ q => by cases q), by simp, ?_, (World.putObj_heap_other (by omega)).trans hd3⟩
      rw [World.putObj_heap_same hlt3, rcE, rcE]
    rintro e a3 W3 hp
    cases e with
    | normal =>
      obtain ⟨v3, hi3⟩ := hp
      obtain ⟨W4, hr4, v4, b4, z4, l4, d4⟩ := fin none W3 v3
      exact ⟨_, W4, hr4, v4, .inl ⟨rfl, hI s' W3 W4 hi3 b4, l4, d4, by have := v3.size; omega⟩⟩
    | ret =>
      obtain ⟨v3, hi3⟩ := hp
      obtain ⟨W4, hr4, v4, b4, z4, l4, d4⟩ := fin (some .ret) W3 v3
      exact ⟨_, W4, hr4, v4, .inr ⟨rfl, .ret, hIx _ s' W3 W4 hi3 b4, l4, d4⟩⟩
    | exit id =>
      obtain ⟨v3, hi3⟩ := hp
      obtain ⟨W4, hr4, v4, b4, z4, l4, d4⟩ := fin (some (.exit id)) W3 v3
      exact ⟨_, W4, hr4, v4, .inr ⟨rfl, .exit id, hIx _ s' W3 W4 hi3 b4, l4, d4⟩⟩
    | goto t =>
      obtain ⟨v3, hi3⟩ := hp
      obtain ⟨W4, hr4, v4, b4, z4, l4, d4⟩ := fin (some (.goto t)) W3 v3
      exact ⟨_, W4, hr4, v4, .inr ⟨rfl, .goto t, hIx _ s' W3 W4 hi3 b4, l4, d4⟩⟩
    | panic ch => exact hp.elim
    | outgrown => exact hp.elim
  · -- behind it
    have back : ∀ W2, Save (fun k o => M k o ∨ k = w.heap.size + 1) X W2 → ∀ o, Save M w (W2.putObj (w.heap.size + 1) o) := fun W2 v o =>
      ⟨v.os.trans k0.os, v.output.trans k0.output, by have := v.size; simp; omega, fun k o' hk hm => by
        have hlt := (Array.getElem?_eq_some_iff.1 hk).1
        exact (World.putObj_heap_other (by omega)).trans (v.block k o' ((k0.block k hlt).trans hk) (fun q => by rcases q with q | q; (· exact hm q); omega)), v.tape.trans k0.tape⟩
    rintro e W2 ⟨⟨v, rfl⟩, vs, ⟨s, hE, hi, hl, hd, -⟩ | ⟨s, c, hi, hl, hd⟩⟩
    · have hlt := (Array.getElem?_eq_some_iff.1 hl).1
      have hz := vs.size
      refine ⟨none, _, by have := run_endLoop (P := P) hl (by rw [rcE]; simp); rw [rcE] at this; exact this, hdone s _ hE (hI s W2 _ hi ?_) (back W2 vs _) ((World.putObj_heap_other (by omega)).trans hd)⟩
      exact Fwd.put hl (by omega) (fun _ _ q => by cases q)
    · have hlt := (Array.getElem?_eq_some_iff.1 hl).1
      have hz := vs.size
      refine ⟨some c, _, by have := run_endLoop (P := P) hl (by rw [rcE]; simp); rw [rcE] at this; exact this, hstop c s _ (hIx c s W2 _ hi ?_) (back W2 vs _) ((World.putObj_heap_other (by omega)).trans hd)⟩
      exact Fwd.put hl (by omega) (fun _ _ q => by cases q)
end Go.Proofs.YtflhmgnhjnaiiaaGreatDoor.Fd
/- A region that draws its order and only reads, within a round of a range over a function: one walk of the text's order serves. -/
set_option linter.unusedVariables false
namespace Go.Proofs.YtflhmgnhjnaiiaaGreatDoor.Fd
open Go.ChangeShapes Go.WideShapes Go.ChangeAt Go.RowKit Go.Shelf
theorem opIn_round {n : Nat} {P : Program} {ops : Array Oper} {Q : Exit → Act → World → Prop} {l i : Nat} {K : Act → World → Prop} {a : Act} {w : World}
    (hd : ∀ (i : Nat) (o : Oper), ops[i]? = some o → ∀ c, o.op ≠ .defer c) (h : wpOpIn Fence.wide n P ops Q i K a w) : wpOpIn (Fence.wide.inRound l) n P ops Q i K a w := by
  unfold wpOpIn at h ⊢
  cases ho : ops[i]? with
  | none => simp only [ho] at h ⊢; exact h
  | some o =>
    simp only [ho] at h ⊢
    split
    · rename_i hw
      simp only [hw, if_true] at h
      unfold Oper.wpIn at h ⊢
      refine ⟨h.1, ?_⟩
      have h2 := h.2
      rw [Oper.semAt_plain _ _ _ (hd i o ho)] at h2 ⊢
      generalize (execOp a.eval o).run P w = r at h2 ⊢
      cases r with
      | ok x w' => cases x <;> exact h2
      | halt x w' => cases x <;> exact h2
    · rename_i hw
      simp only [hw] at h
      exact h
theorem anyIn_round {n : Nat} {P : Program} {md : Region.Mode} {ops : Array Oper} {Q : Exit → Act → World → Prop} {l : Nat}
    (hd : ∀ (i : Nat) (o : Oper), ops[i]? = some o → ∀ c, o.op ≠ .defer c) : ∀ (fuel : Nat) (listed : Array Bool) (a : Act) (w : World), wpAnyIn Fence.wide n P md ops Q fuel listed a w → wpAnyIn (Fence.wide.inRound l) n P md ops Q fuel listed a w
  | 0, _, _, _, h => h
  | fuel + 1, _, _, _, h => ⟨h.1, fun i hi => opIn_round hd (wpOpIn_mono (fun a' w' q => anyIn_round hd fuel _ a' w' q) (h.2 i hi))⟩
def noDefer (l : List Oper) : Bool := l.all fun o => match o.op with | .defer _ => false | _ => true
theorem noDefer_of {l : List Oper} (h : noDefer l = true) : ∀ (i : Nat) (o : Oper), l.toArray[i]? = some o → ∀ c, o.op ≠ .defer c := fun i o ho c e => by
  have hm : o ∈ l := by
    simp only [List.getElem?_toArray] at ho
    exact List.mem_of_getElem? ho
  have := List.all_eq_true.1 h o hm
  rw [e] at this; cases this
theorem quiet_round {n id l₀ : Nat} {P : Program} {Q : Exit → Act → World → Prop} {a : Act} {w : World} {l : List Oper} (hm : P.follows .mixedOrders = true) (hB : Region.lexB .any l.toArray = true) (hd : noDefer l = true)
    (h : wpQuietIn Fence.wide n P l.toArray (fun w' => ∃ k, w' = w.drewN k) (fun a' => ∀ w', (∃ k, w' = w.drewN k) → Q .normal a' w') l a) : (Code.region id l.toArray true).wpIn (Fence.wide.inRound l₀) n P Q a w := by
  simp only [Region.lexB, Bool.and_eq_true] at hB
  refine wpIn_region_any hm (anyIn_round (noDefer_of hd) _ _ _ _ (wpAnyIn_of_quiet (C := fun w' => ∃ k, w' = w.drewN k) (Q := fun a' => ∀ w', (∃ k, w' = w.drewN k) → Q .normal a' w') rfl (fun _ w' hw' q => q w' hw') _ _ _ _ ⟨1, rfl⟩ ?_))
  have q := wpAnyQIn_lex (F := Fence.wide) (n := n) (C := fun w' => ∃ k, w' = w.drewN k) (md := .any) hB.1 l 0 (Array.replicate l.toArray.size false) a (by simp) (by simpa using hB.2) h
  simpa using q
end Go.Proofs.YtflhmgnhjnaiiaaGreatDoor.Fd
