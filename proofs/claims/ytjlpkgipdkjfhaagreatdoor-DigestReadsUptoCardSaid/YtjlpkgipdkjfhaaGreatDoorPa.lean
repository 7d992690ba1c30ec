import Derived.Test.YtjlpkgipdkjfhaaGreatDoorKept
import Derived.RangeFuncNested
import Derived.RangeFuncBound
import Derived.RangeFuncCalls
import Derived.RangeFuncLeaves
import Derived.RangeFuncOne
import Derived.Shelf.Abstract
import Derived.Shelf.RegionOpen
import Derived.OwnWalkIn
import Derived.TacticsInMore
import Derived.LoopNIn
import Derived.LoopIn
import Derived.Test.YtjlpkgipdkjfhaaGreatDoorEa
import Derived.Lib.Case
import Derived.Test.YtjlpkgipdkjfhaaGreatDoorEb
import Derived.Laws.AppendOwnNone
import Derived.RangeFuncRecord
import Derived.Laws.IdiomStrings
import Derived.Lib.ConvBytes
import Derived.Maps.AppendAt
set_option linter.unusedVariables false
set_option linter.unusedSimpArgs false
namespace Go.Proofs.YtjlpkgipdkjfhaaGreatDoor.Pl
open Go.ChangeShapes Go.WideShapes Go.ChangeAt Go.RowKit Go.Shelf
structure Save (M : Nat → Obj → Prop) (A B : World) : Prop where
  os : B.os = A.os
  output : B.output = A.output
  size : A.heap.size ≤ B.heap.size
  block : ∀ k o, A.heap[k]? = some o → ¬ M k o → B.heap[k]? = some o
  tape : B.tape = A.tape
theorem Save.refl (M : Nat → Obj → Prop) (A : World) : Save M A A := ⟨rfl, rfl, Nat.le_refl _, fun _ _ h _ => h, rfl⟩
theorem Save.trans {M : Nat → Obj → Prop} {A B C : World} (h : Save M A B) (k : Save M B C) : Save M A C :=
  ⟨k.os.trans h.os, k.output.trans h.output, Nat.le_trans h.size k.size, fun i o hi hm => k.block i o (h.block i o hi hm) hm, k.tape.trans h.tape⟩
theorem Save.mono {M M' : Nat → Obj → Prop} {A B : World} (h : Save M A B) (hm : ∀ k o, A.heap[k]? = some o → M k o → M' k o) : Save M' A B :=
  ⟨h.os, h.output, h.size, fun k o hk hn => h.block k o hk (fun q => hn (hm k o hk q)), h.tape⟩
theorem at_some {A : World} {k : Nat} (h : k < A.heap.size) : ∃ o, A.heap[k]? = some o := ⟨_, Array.getElem?_eq_getElem h⟩
theorem Save.of_kept {A B : World} (M : Nat → Obj → Prop) (h : Kept A B) : Save M A B := ⟨h.os, h.output, h.size, fun k o hk _ => (h.block k (Array.getElem?_eq_some_iff.1 hk).1).trans hk, h.tape⟩
theorem Save.kept {M : Nat → Obj → Prop} {A B : World} (h : Save M A B) (hm : ∀ k o, A.heap[k]? = some o → ¬ M k o) : Kept A B := ⟨h.os, h.output, h.size, fun k hk => by
  obtain ⟨o, ho⟩ := at_some hk
  rw [ho]; exact h.block k o ho (hm k o ho), h.tape⟩
theorem Save.below {M : Nat → Obj → Prop} {A B : World} (h : Save M A B) {n : Nat} (hn : n ≤ A.heap.size) (hm : ∀ k o, A.heap[k]? = some o → M k o → n ≤ k) : Below n A B :=
  ⟨h.os, h.tape, h.output, h.size, fun k hk => by
    obtain ⟨o, ho⟩ := at_some (show k < A.heap.size by omega)
    rw [ho]; exact h.block k o ho (fun q => by have := hm k o ho q; omega)⟩
theorem Save.put {A : World} {r : Nat} (o : Obj) {M : Nat → Obj → Prop} (hM : ∀ o', A.heap[r]? = some o' → M r o') : Save M A (A.putObj r o) :=
  ⟨rfl, rfl, by simp, fun k o' hk hn => by
    rw [World.putObj_heap_other (fun e => hn (by subst e; exact hM _ hk))]; exact hk, rfl⟩
theorem Save.set {A : World} {p : Addr} (v : Value) {M : Nat → Obj → Prop} (hM : ∀ o', A.heap[p.block]? = some o' → M p.block o') : Save M A (A.setCell p v) :=
  ⟨rfl, rfl, by simp [World.setCell], fun k o' hk hn => by
    rw [Below.heap_setCell _ _ _ _ (fun e => hn (by subst e; exact hM _ hk))]; exact hk, rfl⟩
theorem Save.at {M : Nat → Obj → Prop} {A B : World} (h : Save M A B) {b : Nat} {o : Obj} (hb : A.heap[b]? = some o) (hm : ¬ M b o) : B.heap[b]? = some o := h.block b o hb hm
theorem yield_any {n m : Nat} {P : Program} {l : Nat} {args : Array Value} {W : World} {R : Ending → World → Prop} (h : YieldAt Fence.wide n P l args W R) : YieldAt Fence.wide m P l args W R := by
  obtain ⟨fn, tmps, assign, body, hy, hR⟩ := h
  exact ⟨fn, tmps, assign, body, hy, hR.1, fun c cs _ => hR.2 c cs (room_wide _)⟩
def Itr {σ : Type} (P : Program) (g : Nat) (lb : Array Value) (Step : σ → Array Value → σ → Prop) (End : σ → Prop) (s0 : σ) (T : Nat → Prop) (cap : World → Prop) : Prop :=
  ∀ (n l : Nat) (M : Nat → Obj → Prop) (J Jx : σ → World → Prop) (W : World), cap W → (∀ k o, M k o → ¬ T k) →
    (∀ s A B, J s A → Save (fun k _ => T k) A B → J s B) → (∀ s A B, Jx s A → Save (fun k _ => T k) A B → Jx s B) →
    (∀ s a s' W1, Step s a s' → J s W1 → YieldAt Fence.wide n P l a W1 fun e W' => Save M W1 W' ∧ ((e = .returned (.bool true) ∧ J s' W') ∨ (e = .returned (.bool false) ∧ Jx s' W'))) →
    J s0 W →
    CallsIn Fence.wide n P g (#[.func (.yield l) #[] #[]] ++ lb) W fun e W' => (∃ v, e = .returned v) ∧ Save (fun k o => M k o ∨ T k) W W' ∧ ((∃ s, End s ∧ J s W') ∨ (∃ s, Jx s W'))
def Itn (T : Nat → Prop) (n : Nat) (k : Nat) (o : Obj) : Prop := T k ∨ (n ≤ k ∧ o.isCells = false)
def rgPost {σ : Type} (M : Nat → Obj → Prop) (I : σ → World → Prop) (Ix : Code → σ → World → Prop) (s : σ) (W : World) : Exit → Act → World → Prop
  | .normal, _, W' => Save M W W' ∧ I s W'
  | .ret, _, W' => Save M W W' ∧ Ix .ret s W'
  | .exit id, _, W' => Save M W W' ∧ Ix (.exit id) s W'
  | .goto t, _, W' => Save M W W' ∧ Ix (.goto t) s W'
  | .panic _, _, _ => False
  | .outgrown, _, _ => False
theorem range_itr {σ : Type} {P : Program} {n : Nat} {g : Operand} {ps : Array Tmp} {assign body : Code} {Q : Exit → Act → World → Prop} {a : Act} {w : World}
    {gf : Nat} {lb : Array Value} (hg : a.eval g = .func (.func gf) #[] lb) (eg : ∀ args w, (callFunc gf args).run P w = .ok (.enter gf args) w)
    {Step : σ → Array Value → σ → Prop} {End : σ → Prop} {s0 : σ} {T : Nat → Prop} {cap : World → Prop} (hT : ∀ k, T k → k < w.heap.size) (hit : Itr P gf lb Step End s0 T cap)
    (hps : ∀ s arr s', Step s arr s' → arr.size = ps.size) (M : Nat → Obj → Prop) (hM : ∀ k o, M k o → ¬ T k ∧ o.isCells = true)
    (hcap : cap w) (hcapK : ∀ A B, Kept A B → cap A → cap B)
    (I : σ → World → Prop) (Ix : Code → σ → World → Prop) (hI : ∀ s A B, I s A → Save (Itn T w.heap.size) A B → I s B) (hIx : ∀ c s A B, Ix c s A → Save (Itn T w.heap.size) A B → Ix c s B) (h0 : I s0 w)
    (hround : ∀ (l : Nat) (s : σ) (arr : Array Value) (s' : σ) (W : World), Step s arr s' → I s W → w.heap.size + 1 < W.heap.size → ∀ K : Act → World → Prop,
      (∀ a' W', Kept W W' → (∀ W2, Save (fun k _ => k = w.heap.size + 1) W' W2 → Save (Itn T w.heap.size) W' W2 → body.wpIn (Fence.wide.inRound l) (n - 1) P (rgPost M I Ix s' W2) a' W2) → K a' W') →
      assign.wpIn (Fence.wide.inRound l) (n - 1) P (Exit.then K (fun _ _ _ => False)) { tmps := (ps.zip arr).foldl (fun t (p, v) => t.setIfInBounds p v) a.tmps, defers := [] } W)
    (hdone : ∀ (s : σ) (W : World), End s → I s W → Save (fun k o => M k o ∨ T k) w W → W.heap[w.heap.size]? = some (.deferred (some [])) → Q .normal { a with defers := { target := .collected w.heap.size, args := #[] } :: a.defers } W)
    (hstop : ∀ (c : Code) (s : σ) (W : World), Ix c s W → Save (fun k o => M k o ∨ T k) w W → W.heap[w.heap.size]? = some (.deferred (some [])) → c.wpIn Fence.wide n P Q { a with defers := { target := .collected w.heap.size, args := #[] } :: a.defers } W) :
    (Code.rangeFunc g ps assign body).wpIn Fence.wide n P Q a w := by
  refine wpIn_rangeFunc (fun fn hfn => ?_)
  generalize hr : (fun (st : LoopState) (pe : Option Code) => ({ state := st, pending := pe, fn, tmps := a.tmps, params := ps, assign, body, defers := w.heap.size } : Loop)) = rc
  have rcE : ∀ st pe, rc st pe = { state := st, pending := pe, fn, tmps := a.tmps, params := ps, assign, body, defers := w.heap.size } := fun st pe => by rw [← hr]
  have k0 : Kept w ((w.alloc (.deferred (some []))).alloc (.loop (rc .ready none))) := ((Kept.refl w).alloc _).alloc _
  have b0 : ((w.alloc (.deferred (some []))).alloc (.loop (rc .ready none))).heap[w.heap.size]? = some (.deferred (some [])) :=
    (Below.heap_alloc _ _ _ (by simp)).trans (World.alloc_heap_new w _)
  have b1 : ((w.alloc (.deferred (some []))).alloc (.loop (rc .ready none))).heap[w.heap.size + 1]? = some (.loop (rc .ready none)) := by
    have := World.alloc_heap_new (w.alloc (.deferred (some []))) (.loop (rc .ready none)); rwa [World.size_alloc] at this
  have s0' : ((w.alloc (.deferred (some []))).alloc (.loop (rc .ready none))).heap.size = w.heap.size + 2 := by simp
  have he : (Instr.enterLoop fn a.tmps ps assign body Fence.wide.round).run P w = .ok (w.heap.size + 1, [{ target := .collected w.heap.size, args := #[] }]) ((w.alloc (.deferred (some []))).alloc (.loop (rc .ready none))) := by
    rw [rcE]; exact run_enterLoop_outer _ _ _ _ _
  generalize (w.alloc (.deferred (some []))).alloc (.loop (rc .ready none)) = X at *
  refine ⟨w.heap.size + 1, _, X, { target := .fn (.func gf) lb, args := #[.func (.yield (w.heap.size + 1)) #[] #[]] }, X, gf, #[.func (.yield (w.heap.size + 1)) #[] #[]] ++ lb, X, he, ?_, fun _ _ => trivial, ?_, fun h => by simp [Fence.wide] at h, ?_⟩
  · simp only [resolve, hg]
    simp [go_sem]
  · simp [invoke, go_sem, eg]
  have own : ∀ k o, (M k o ∨ k = w.heap.size + 1) → ¬ T k := fun k o hk hq => by
    rcases hk with h | h
    · exact (hM k o h).1 hq
    · have := hT k hq; omega
  have nT1 : ¬ T (w.heap.size + 1) := fun h => by have := hT _ h; omega
  have nT0 : ¬ T w.heap.size := fun h => by have := hT _ h; omega
  refine (hit (n - 1) (w.heap.size + 1) (fun k o => M k o ∨ k = w.heap.size + 1)
    (fun s W => I s W ∧ W.heap[w.heap.size + 1]? = some (.loop (rc .ready none)) ∧ W.heap[w.heap.size]? = some (.deferred (some [])) ∧ X.heap.size ≤ W.heap.size)
    (fun s W => ∃ c, Ix c s W ∧ W.heap[w.heap.size + 1]? = some (.loop (rc .done (some c))) ∧ W.heap[w.heap.size]? = some (.deferred (some [])))
    X (hcapK _ _ k0 hcap) own
    (fun s A B h k => ⟨hI s A B h.1 (k.mono (fun _ _ _ q => Or.inl q)), k.block _ _ h.2.1 nT1, k.block _ _ h.2.2.1 nT0, Nat.le_trans h.2.2.2 k.size⟩)
    (fun s A B ⟨c, h1, h2, h3⟩ k => ⟨c, hIx c s A B h1 (k.mono (fun _ _ _ q => Or.inl q)), k.block _ _ h2 nT1, k.block _ _ h3 nT0⟩)
    ?_ ⟨hI s0 w X h0 (Save.of_kept _ k0), b1, b0, Nat.le_refl _⟩).mono ?_
  · -- one round
    rintro s arr s' W hst ⟨hi, hl, hd, hsz⟩
    have hy := run_yield (P := P) (args := arr) hl (by rw [rcE]; exact hps s arr s' hst)
    rw [rcE] at hy
    refine ⟨fn, _, assign, body, hy, roundIn_of_wpIn hfn (hround _ s arr s' W hst hi (by omega) _ (fun a' W' k' hb => ?_))⟩
    have hl' : W'.heap[w.heap.size + 1]? = some (.loop (rc .ready none)) := (k'.block _ (by omega)).trans hl
    have hd' : W'.heap[w.heap.size]? = some (.deferred (some [])) := (k'.block _ (by omega)).trans hd
    refine ⟨_, run_beginRound hl' (by rw [rcE]), ?_⟩
    have hk' := k'.size
    have hl2 : (W'.putObj (w.heap.size + 1) (.loop { rc .ready none with state := .busy })).heap[w.heap.size + 1]? = some (.loop { rc .ready none with state := .busy }) := World.putObj_heap_same (by omega)
    have hd2 : (W'.putObj (w.heap.size + 1) (.loop { rc .ready none with state := .busy })).heap[w.heap.size]? = some (.deferred (some [])) := (World.putObj_heap_other (by omega)).trans hd'
    have v1 : Save (fun k o => M k o ∨ k = w.heap.size + 1) W (W'.putObj (w.heap.size + 1) (.loop { rc .ready none with state := .busy })) := (Save.of_kept _ k').trans (Save.put _ (fun _ _ => Or.inr rfl))
    have hs2 : (W'.putObj (w.heap.size + 1) (.loop { rc .ready none with state := .busy })).heap.size = W'.heap.size := by simp
    refine wpIn_mono (hb _ (Save.put _ (fun _ _ => rfl)) (Save.put _ (fun o2 h2 => Or.inr ⟨by omega, by rw [hl'] at h2; cases h2; rfl⟩))) ?_
    generalize W'.putObj (w.heap.size + 1) (.loop { rc .ready none with state := .busy }) = W2 at *
    have fin : ∀ (jump : Option Code) (W3 : World), Save M W2 W3 → ∃ W4, (Instr.endRound (w.heap.size + 1) jump).run P W3 = .ok (.bool jump.isNone) W4 ∧ Save (fun k o => M k o ∨ k = w.heap.size + 1) W W4 ∧ Save (Itn T w.heap.size) W3 W4 ∧ W3.heap.size ≤ W4.heap.size ∧
        W4.heap[w.heap.size + 1]? = some (.loop (rc (if jump.isNone then .ready else .done) jump)) ∧ W4.heap[w.heap.size]? = some (.deferred (some [])) := fun jump W3 v3 => by
      have q1 : ¬ M (w.heap.size + 1) (.loop { rc .ready none with state := .busy }) := fun h => by
        exact Bool.noConfusion (show false = true from (hM _ _ h).2)
      have q0 : ¬ M w.heap.size (.deferred (some [])) := fun h => by
        exact Bool.noConfusion (show false = true from (hM _ _ h).2)
      have hl3 := v3.at hl2 q1
      have hd3 := v3.at hd2 q0
      have hlt3 := (Array.getElem?_eq_some_iff.1 hl3).1
      have := run_endRound (P := P) jump hl3
      refine ⟨_, this, v1.trans ((v3.mono (fun k o _ h => Or.inl h)).trans (Save.put _ (fun _ _ => Or.inr rfl))), Save.put _ (fun o2 h2 => Or.inr ⟨by omega, by rw [hl3] at h2; cases h2; rfl⟩), by simp, ?_, (World.putObj_heap_other (by omega)).trans hd3⟩
      rw [World.putObj_heap_same hlt3, rcE, rcE]
    rintro e a3 W3 hp
    cases e with
    | normal =>
      obtain ⟨v3, hi3⟩ := hp
      obtain ⟨W4, hr4, v4, b4, z4, l4, d4⟩ := fin none W3 v3
      exact ⟨_, W4, hr4, v4, .inl ⟨rfl, hI s' W3 W4 hi3 b4, l4, d4, by have := v3.size; omega⟩⟩
    | ret =>
      obtain ⟨v3, hi3⟩ := hp
      obtain ⟨W4, hr4, v4, b4, z4, l4, d4⟩ := fin (some .ret) W3 v3
      exact ⟨_, W4, hr4, v4, .inr ⟨rfl, .ret, hIx _ s' W3 W4 hi3 b4, l4, d4⟩⟩
    | exit id =>
      obtain ⟨v3, hi3⟩ := hp
      obtain ⟨W4, hr4, v4, b4, z4, l4, d4⟩ := fin (some (.exit id)) W3 v3
      exact ⟨_, W4, hr4, v4, .inr ⟨rfl, .exit id, hIx _ s' W3 W4 hi3 b4, l4, d4⟩⟩
    | goto t =>
      obtain ⟨v3, hi3⟩ := hp
      obtain ⟨W4, hr4, v4, b4, z4, l4, d4⟩ := fin (some (.goto t)) W3 v3
      exact ⟨_, W4, hr4, v4, .inr ⟨rfl, .goto t, hIx _ s' W3 W4 hi3 b4, l4, d4⟩⟩
    | panic ch => exact hp.elim
    | outgrown => exact hp.elim
  · -- behind it
    have back : ∀ W2, Save (fun k o => (M k o ∨ k = w.heap.size + 1) ∨ T k) X W2 → ∀ o, Save (fun k o => M k o ∨ T k) w (W2.putObj (w.heap.size + 1) o) := fun W2 v o =>
      ⟨v.os.trans k0.os, v.output.trans k0.output, by have := v.size; simp; omega, fun k o' hk hm => by
        have hlt := (Array.getElem?_eq_some_iff.1 hk).1
        exact (World.putObj_heap_other (by omega)).trans (v.block k o' ((k0.block k hlt).trans hk) (fun q => by rcases q with (q | q) | q; (· exact hm (Or.inl q)); (· omega); (· exact hm (Or.inr q)))), v.tape.trans k0.tape⟩
    rintro e W2 ⟨⟨v, rfl⟩, vs, ⟨s, hE, hi, hl, hd, -⟩ | ⟨s, c, hi, hl, hd⟩⟩
    · have hlt := (Array.getElem?_eq_some_iff.1 hl).1
      have hz := vs.size
      refine ⟨none, _, by have := run_endLoop (P := P) hl (by rw [rcE]; simp); rw [rcE] at this; exact this, hdone s _ hE (hI s W2 _ hi ?_) (back W2 vs _) ((World.putObj_heap_other (by omega)).trans hd)⟩
      exact Save.put _ (fun o2 h2 => Or.inr ⟨by omega, by rw [hl] at h2; cases h2; rfl⟩)
    · have hlt := (Array.getElem?_eq_some_iff.1 hl).1
      have hz := vs.size
      refine ⟨some c, _, by have := run_endLoop (P := P) hl (by rw [rcE]; simp); rw [rcE] at this; exact this, hstop c s _ (hIx c s W2 _ hi ?_) (back W2 vs _) ((World.putObj_heap_other (by omega)).trans hd)⟩
      exact Save.put _ (fun o2 h2 => Or.inr ⟨by omega, by rw [hl] at h2; cases h2; rfl⟩)
end Go.Proofs.YtjlpkgipdkjfhaaGreatDoor.Pl
namespace Go.Proofs.YtjlpkgipdkjfhaaGreatDoor.Pl
open En
abbrev B := List UInt8
def ltB (c : UInt8) : Bool := decide (97 ≤ c.toNat ∧ c.toNat ≤ 122) || decide (65 ≤ c.toNat ∧ c.toNat ≤ 90)
def dgB (c : UInt8) : Bool := decide (48 ≤ c.toNat ∧ c.toNat ≤ 57)
def wdB (c : UInt8) : Bool := ltB c || dgB c
def opn : B → Bool
  | [] => false
  | c :: _ => ltB c || c == 47 || c == 33
def aft : B → B
  | [] => []
  | c :: r => if c = 62 then r else aft r
def clo : B → Bool
  | [] => false
  | c :: _ => c == 47
def lo (l : B) : B := l.map Lib.lowerB
def cor (r : B) : B := if clo r = true then r.drop 1 else r
def nam (r : B) : B := lo ((cor r).takeWhile wdB)
def scN : B := [115, 99, 114, 105, 112, 116]
def stN : B := [115, 116, 121, 108, 101]
def hidN (n : B) : Bool := n == scN || n == stN
def hit (n l : B) : Bool := l.take 2 == [60, 47] && lo ((l.drop 2).take n.length) == n
def skp (n : B) : B → B
  | [] => []
  | c :: r => if hit n (c :: r) = true then c :: r else skp n r
def brkL : List B := [[112], [98, 114], [100, 105, 118], [108, 105], [116, 114], [117, 108], [111, 108], [116, 97, 98, 108, 101], [104, 49], [104, 50], [104, 51], [104, 52], [104, 53], [104, 54]]
def brk (n : B) : Bool := brkL.contains n
def hidM (r : B) : Bool := !clo r && hidN (nam r)
def rst (r : B) : B := if hidM r = true then skp (nam r) (aft r) else aft r
def isM (c : UInt8) (r : B) : Bool := c == 60 && opn r
def pcF : Nat → B → B → List B
  | 0, cur, _ => [cur]
  | _ + 1, cur, [] => [cur]
  | n + 1, cur, c :: r => if isM c r = true then (if brk (nam r) = true then cur :: pcF n [] (rst r) else pcF n cur (rst r)) else pcF n (cur ++ [c]) r
theorem aft_len : ∀ l : B, (aft l).length ≤ l.length
  | [] => Nat.le_refl _
  | c :: r => by
    have := aft_len r
    rw [aft]; split <;> simp <;> omega
theorem skp_len (n : B) : ∀ l : B, (skp n l).length ≤ l.length
  | [] => Nat.le_refl _
  | c :: r => by
    have := skp_len n r
    rw [skp]; split <;> simp; omega
theorem rst_len (r : B) : (rst r).length ≤ r.length := by
  have h1 := aft_len r
  have h2 := skp_len (nam r) (aft r)
  unfold rst; split <;> omega
theorem pcF_more : ∀ (n m : Nat) (cur l : B), l.length ≤ n → n ≤ m → pcF m cur l = pcF n cur l := by
  intro n
  induction n with
  | zero =>
    intro m cur l h _
    obtain rfl : l = [] := by simpa using h
    cases m <;> rfl
  | succ n ih =>
    intro m cur l h hm
    obtain ⟨m, rfl⟩ : ∃ k, m = k + 1 := ⟨m - 1, by omega⟩
    cases l with
    | nil => rfl
    | cons c r =>
      have hr : r.length ≤ n := by simpa using h
      have hs := rst_len r
      rw [pcF, pcF, ih m [] (rst r) (by omega) (by omega), ih m cur (rst r) (by omega) (by omega), ih m (cur ++ [c]) r hr (by omega)]
def pc (cur l : B) : List B := pcF l.length cur l
def pcs (l : B) : List B := pc [] l
theorem pc_nil (cur : B) : pc cur [] = [cur] := rfl
theorem pc_cons (cur : B) (c : UInt8) (r : B) : pc cur (c :: r) = if isM c r = true then (if brk (nam r) = true then cur :: pc [] (rst r) else pc cur (rst r)) else pc (cur ++ [c]) r := by
  have hs := rst_len r
  unfold pc
  rw [List.length_cons, pcF, pcF_more (rst r).length r.length [] (rst r) (Nat.le_refl _) hs, pcF_more (rst r).length r.length cur (rst r) (Nat.le_refl _) hs]
theorem pc_mark (cur r : B) (h : opn r = true) : pc cur (60 :: r) = if brk (nam r) = true then cur :: pc [] (rst r) else pc cur (rst r) := by
  rw [pc_cons, if_pos (by unfold isM; rw [h]; rfl)]
theorem pc_other (cur : B) {c : UInt8} {r : B} (h : isM c r = false) : pc cur (c :: r) = pc (cur ++ [c]) r := by
  rw [pc_cons, if_neg (by rw [h]; decide)]
theorem pc_ne (cur l : B) : pc cur l ≠ [] := by
  have key : ∀ (n : Nat) (cur l : B), pcF n cur l ≠ [] := by
    intro n
    induction n with
    | zero => intro cur l; simp [pcF]
    | succ n ih =>
      intro cur l
      cases l with
      | nil => simp [pcF]
      | cons c r =>
        rw [pcF]
        split
        · split
          · simp
          · exact ih _ _
        · exact ih _ _
  exact key _ _ _
theorem pc_bd : ∀ (n : Nat) (cur l : B), l.length ≤ n → (pc cur l).length ≤ l.length + 1 ∧ ∀ p ∈ pc cur l, p.length ≤ cur.length + l.length := by
  intro n
  induction n with
  | zero =>
    intro cur l h
    obtain rfl : l = [] := by simpa using h
    rw [pc_nil]; simp
  | succ n ih =>
    intro cur l h
    cases l with
    | nil => rw [pc_nil]; simp
    | cons c r =>
      have hr : r.length ≤ n := by simpa using h
      have hs := rst_len r
      rw [pc_cons, List.length_cons]
      split
      · split
        · obtain ⟨h1, h2⟩ := ih [] (rst r) (by omega)
          refine ⟨by rw [List.length_cons]; omega, fun p hp => ?_⟩
          rcases List.mem_cons.1 hp with rfl | hp
          · omega
          · have := h2 p hp; simp at this; omega
        · obtain ⟨h1, h2⟩ := ih cur (rst r) (by omega)
          exact ⟨by omega, fun p hp => by have := h2 p hp; omega⟩
      · obtain ⟨h1, h2⟩ := ih (cur ++ [c]) r hr
        exact ⟨by omega, fun p hp => by have := h2 p hp; simp at this; omega⟩
theorem pcs_len (l : B) : (pcs l).length ≤ l.length + 1 := (pc_bd _ [] l (Nat.le_refl _)).1
theorem pcs_mem (l p : B) (h : p ∈ pcs l) : p.length ≤ l.length := by have := (pc_bd _ [] l (Nat.le_refl _)).2 p h; simpa using this
def fm : B → Option (B × B)
  | [] => none
  | c :: r => if isM c r = true then some ([], r) else (fm r).map fun p => (c :: p.1, p.2)
theorem pc_fm : ∀ (l cur : B), pc cur l = match fm l with
    | none => [cur ++ l]
    | some (a, r) => if brk (nam r) = true then (cur ++ a) :: pc [] (rst r) else pc (cur ++ a) (rst r)
  | [], cur => by rw [pc_nil, fm]; simp
  | c :: r, cur => by
    rw [pc_cons, fm]
    by_cases h : isM c r = true
    · rw [if_pos h, if_pos h]; simp
    · rw [if_neg h, if_neg h, pc_fm r (cur ++ [c])]
      cases fm r with
      | none => simp
      | some p => simp
theorem fm_len : ∀ (l a r : B), fm l = some (a, r) → a.length + r.length + 1 = l.length ∧ opn r = true ∧ l = a ++ 60 :: r
  | [], a, r, h => by simp [fm] at h
  | c :: x, a, r, h => by
    rw [fm] at h
    by_cases q : isM c x = true
    · rw [if_pos q] at h
      cases h
      unfold isM at q
      simp only [Bool.and_eq_true, beq_iff_eq] at q
      exact ⟨by simp, q.2, by rw [q.1]; rfl⟩
    · rw [if_neg q] at h
      cases hf : fm x with
      | none => rw [hf] at h; cases h
      | some p =>
        obtain ⟨p1, p2⟩ := p
        rw [hf] at h
        cases h
        obtain ⟨h1, h2, h3⟩ := fm_len x p1 p2 hf
        exact ⟨by simp; omega, h2, by rw [h3]; rfl⟩
def addL (acc t : B) : B := if t = [] then acc else if acc = [] then t else acc ++ [10] ++ t
def lin (p : B) : B := tr (gone p).1
def ofP (l : B) : B := ((pcs l).map lin).foldl addL []
def nel (l : List B) : List B := l.filter fun t => !t.isEmpty
theorem fold_nel : ∀ (ts : List B) (acc : B), ts.foldl addL acc = (nel ts).foldl addL acc
  | [], acc => rfl
  | t :: ts, acc => by
    by_cases h : t = []
    · subst h
      rw [List.foldl_cons, show addL acc [] = acc from rfl, fold_nel ts acc]; rfl
    · have : nel (t :: ts) = t :: nel ts := by
        unfold nel; rw [List.filter_cons_of_pos (by cases t <;> simp_all)]
      rw [this, List.foldl_cons, List.foldl_cons, fold_nel ts]
theorem nel_ne {ts : List B} : ∀ t ∈ nel ts, t ≠ [] := fun t h e => by
  unfold nel at h
  rw [List.mem_filter] at h
  rw [e] at h
  exact absurd h.2 (by decide)
theorem join_fold : ∀ (ts : List B) (acc : B), acc ≠ [] → (∀ t ∈ ts, t ≠ []) → ts.foldl addL acc = acc ++ (ts.map fun t => 10 :: t).flatten
  | [], acc, h, _ => by simp
  | t :: ts, acc, h, hn => by
    have ht : t ≠ [] := hn t (by simp)
    rw [List.foldl_cons, join_fold ts _ (by unfold addL; rw [if_neg ht, if_neg h]; simp [h]) (fun x hx => hn x (by simp [hx]))]
    unfold addL
    rw [if_neg ht, if_neg h]
    simp
theorem inter_cons (x : B) : ∀ ts : List B, ([10] : B).intercalate (x :: ts) = x ++ (ts.map fun t => 10 :: t).flatten
  | [] => by simp [List.intercalate]
  | t :: ts => by
    have h := inter_cons t ts
    rw [List.map_cons, List.flatten_cons]
    have e : ([10] : B).intercalate (x :: t :: ts) = x ++ ([10] ++ ([10] : B).intercalate (t :: ts)) := by simp [List.intercalate, List.intersperse]
    rw [e, h]; simp
theorem join_of {ts : List B} (hn : ∀ t ∈ ts, t ≠ []) : ([10] : B).intercalate ts = ts.foldl addL [] := by
  cases ts with
  | nil => rfl
  | cons x ts =>
    have hx : x ≠ [] := hn x (by simp)
    rw [inter_cons, List.foldl_cons, show addL [] x = x by unfold addL; rw [if_neg hx, if_pos rfl], join_fold ts x hx (fun t ht => hn t (by simp [ht]))]
theorem ofP_nel (l : B) : ofP l = (nel ((pcs l).map lin)).foldl addL [] := fold_nel _ _
theorem lin_len (p : B) : (lin p).length ≤ 2 * p.length := by
  have h1 := trF_len (gone p).1 false false
  have h2 := gone_len _ p (Nat.le_refl _)
  unfold lin tr; omega
theorem addL_len (acc t : B) : (addL acc t).length ≤ acc.length + 1 + t.length := by
  unfold addL; split
  · omega
  · split
    · omega
    · simp; omega
theorem fold_len (M : Nat) : ∀ (ts : List B) (acc : B), (∀ t ∈ ts, t.length ≤ M) → (ts.foldl addL acc).length ≤ acc.length + ts.length * (M + 1)
  | [], acc, _ => by simp
  | t :: ts, acc, h => by
    have h1 := addL_len acc t
    have h2 := h t (by simp)
    have h3 := fold_len M ts (addL acc t) (fun x hx => h x (by simp [hx]))
    rw [List.foldl_cons, List.length_cons, Nat.add_mul]
    omega
def fil (most : Int) : List B → B → List B
  | [], made => [made]
  | w :: ws, made => if made ≠ [] ∧ most < (made.length : Int) + 1 + w.length then made :: fil most ws w else fil most ws (if made = [] then w else made ++ [32] ++ w)
end Go.Proofs.YtjlpkgipdkjfhaaGreatDoor.Pl
namespace Go.Proofs.YtjlpkgipdkjfhaaGreatDoor
open Go.ChangeShapes Go.WideShapes Go.ChangeAt Go.RowKit
open En
abbrev B := List UInt8
structure Ob (b : Nat) (w w' : World) : Prop where
  os : w'.os = w.os
  tape : w'.tape = w.tape
  output : w'.output = w.output
  size : w.heap.size ≤ w'.heap.size
  block : ∀ k, k < w.heap.size → k ≠ b → w'.heap[k]? = w.heap[k]?
theorem Ob.refl (b : Nat) (w : World) : Ob b w w := ⟨rfl, rfl, rfl, Nat.le_refl _, fun _ _ _ => rfl⟩
theorem Ob.trans {b : Nat} {w x y : World} (h : Ob b w x) (k : Ob b x y) : Ob b w y :=
  ⟨k.os.trans h.os, k.tape.trans h.tape, k.output.trans h.output, Nat.le_trans h.size k.size, fun j hj hb => (k.block j (Nat.lt_of_lt_of_le hj h.size) hb).trans (h.block j hj hb)⟩
theorem Ob.kept {b : Nat} {w x y : World} (h : Ob b w x) (k : Kept x y) : Ob b w y :=
  h.trans ⟨k.os, k.tape, k.output, k.size, fun j hj _ => k.block j hj⟩
theorem Ob.drewN {b : Nat} {w x : World} (h : Ob b w x) (n : Nat) : Ob b w (x.drewN n) := h.kept ((Kept.refl x).drewN n)
theorem Ob.set {b : Nat} {w x : World} (h : Ob b w x) (j : Nat) (v : Value) : Ob b w (x.setCell ⟨b, j, none⟩ v) :=
  h.trans ⟨rfl, rfl, rfl, by simp [World.setCell], fun k hk hb => Below.heap_setCell _ _ _ _ hb⟩
theorem Ob.below {b B : Nat} {w w' : World} (h : Ob b w w') (hB : B ≤ b) (hw : B ≤ w.heap.size) : Below B w w' := ⟨h.os, h.tape, h.output, h.size, fun k hk => h.block k (by omega) (by omega)⟩
abbrev sV (s : B) : Value := .string ⟨s.toArray⟩
abbrev iV (n : Int) : Value := .int .i64 n
theorem infoS : (Tryz.prog.info? 9).map (fun i => (i.zero, i.size, i.bytes)) = some (some (.string ⟨#[]⟩), 1, 16) := by kernel_rfl
def OwnS (B0 : Nat) (v : Value) (ls : List B) (w : World) : Prop := w.ownsRow B0 9 1 v ls.length (ls.map sV)
theorem own_kind {w : World} {B0 : Nat} {e : TypeId} {size : Nat} {v : Value} {n : Nat} {xs : List Value} (h : w.ownsRow B0 e size v n xs) : ∀ g, v.ownBlock = some g → ∃ c, w.heap[g]? = some (.cells c e (0, 0)) := by
  intro g hg
  rcases h.2 with ⟨rfl, _⟩ | ⟨g', cap, cur, rfl, _, hh, _⟩
  · simp [Value.ownBlock] at hg
  · simp [Value.ownBlock] at hg
    subst hg
    exact ⟨cur, hh⟩
def NoRow (e : TypeId) (w : World) (row : Option Nat) : Prop := ∀ r, row = some r → ∀ c, w.heap[r]? ≠ some (.cells c e (0, 0))
theorem own_keep {w w' : World} {B0 : Nat} {e : TypeId} {size : Nat} {v : Value} {n : Nat} {xs : List Value} {row : Option Nat} (h : w.ownsRow B0 e size v n xs) (hg : w.grownBy w' row) (hr : NoRow e w row) : w'.ownsRow B0 e size v n xs := by
  refine World.ownsRow.kept h hg ?_
  cases hv : v.ownBlock with
  | none => exact Or.inl rfl
  | some g =>
    refine Or.inr (fun e' => ?_)
    obtain ⟨c, hc⟩ := own_kind h g hv
    exact hr g e'.symm c hc
theorem NoRow.none {e : TypeId} {w : World} : NoRow e w none := fun r h => by cases h
theorem NoRow.of {e e' : TypeId} {w : World} {r : Nat} {c : Array Value} {fz : Nat × Nat} (h : w.heap[r]? = some (.cells c e' fz)) (hne : e' ≠ e) : NoRow e w (some r) := fun r' h' c' hc => by
  cases h'
  rw [h] at hc
  cases hc
  exact hne rfl
theorem NoRow.own {w : World} {B0 : Nat} {e e' : TypeId} {size : Nat} {v : Value} {n : Nat} {xs : List Value} (h : w.ownsRow B0 e' size v n xs) (hne : e' ≠ e) : NoRow e w v.ownBlock := fun r hr c hc => by
  obtain ⟨c', hc'⟩ := own_kind h r hr
  rw [hc'] at hc
  cases hc
  exact hne rfl
theorem own_slice {w : World} {B0 : Nat} {e : TypeId} {size : Nat} {v : Value} {n : Nat} {xs : List Value} (h : w.ownsRow B0 e size v n xs) : ∃ ao cap, v = .slice ao n cap := by
  rcases h.2 with ⟨h1, h2⟩ | ⟨g, cap, _, h1, _⟩
  · exact ⟨none, 0, by rw [h1, h2]⟩
  · exact ⟨_, _, h1⟩
theorem own_some {w : World} {B0 : Nat} {e : TypeId} {size : Nat} {v : Value} {n : Nat} {xs : List Value} (h : w.ownsRow B0 e size v n xs) (hn : n ≠ 0) : ∃ g cap, v = .slice (some ⟨g, 0, none⟩) n cap ∧ n ≤ cap ∧ cap ≤ maxLen := by
  rcases h.2 with ⟨_, h2⟩ | ⟨g, cap, _, h1, _, _, h2, h3, _⟩
  · exact absurd h2 hn
  · exact ⟨g, cap, h1, h2, h3⟩
theorem own_mono {w : World} {B0 B1 : Nat} {e : TypeId} {size : Nat} {v : Value} {n : Nat} {xs : List Value} (h : w.ownsRow B1 e size v n xs) (hB : B0 ≤ B1) : w.ownsRow B0 e size v n xs := by
  refine ⟨h.1, ?_⟩
  rcases h.2 with h2 | ⟨g, cap, cur, h1, h2, h3⟩
  · exact Or.inl h2
  · exact Or.inr ⟨g, cap, cur, h1, Nat.le_trans hB h2, h3⟩
theorem wp_pushS {op : Oper} {a : Act} {w : World} {K : Act → World → Prop} {Q : Exit → Act → World → Prop} (sx x : Operand) (ho : op.op = .call { callee := .builtin .append, args := #[sx, x], argTypes := #[42, 42] })
    (B0 : Nat) (v : Value) (ls : List B) (t : B) (k : Nat) (hs : a.eval sx = v) (hO : OwnS B0 v ls w) (hx : a.eval x = .slice (some ⟨k, 0, none⟩) 1 1) (hc : w.cell? ⟨k, 0, none⟩ = some (sV t)) (hl : ls.length ≤ 10000000) (hB : B0 ≤ w.heap.size)
    (h : ∀ v' w', OwnS B0 v' (ls ++ [t]) w' → w.grownBy w' v.ownBlock → K (a.put op.dst v') w') : op.wp Tryz.prog a w K Q := by
  obtain ⟨i0, hi, hz0, hz1, hz2⟩ := info_parts infoS
  refine wp_append_own w sx x 42 ho B0 9 i0 _ 1 16 Tryz.underlying42 hi hz0 hz1 hz2 rfl (by decide) v ls.length (ls.map sV) hs hO ⟨k, 0, none⟩ 1 1 [sV t] hx rfl (fun j u hj => ?_) (fun u hu => by simp at hu; subst hu; rfl) (by unfold maxLen; omega) (by omega) hB ?_
  · match j, hj with
    | 0, hj => simp at hj; subst hj; simpa [Addr.add] using hc
  · intro v' w' h2 h3 _
    refine h v' w' ?_ h3
    unfold OwnS
    rw [List.length_append, List.map_append]
    exact h2
theorem cell_at {x : World} {n j : Nat} {cs : Array Value} {t : TypeId} {v : Value} (h : x.heap[n]? = some (.cells cs t)) (hv : cs[j]? = some v) : x.cell? ⟨n, j, none⟩ = some v := by
  simp [World.cell?, h, hv]
def Bv (t : TypeId) (b : Nat) (v : Value) (W : World) : Prop := W.heap[b]? = some (.cells #[v] t)
theorem Bv.lt {t : TypeId} {b : Nat} {v : Value} {W : World} (h : Bv t b v W) : b < W.heap.size := (Array.getElem?_eq_some_iff.1 h).1
theorem Bv.c {t : TypeId} {b : Nat} {v : Value} {W : World} (h : Bv t b v W) : W.cell? ⟨b, 0, none⟩ = some v := cell_at h rfl
theorem Bv.kept {t : TypeId} {b : Nat} {v : Value} {W W' : World} (h : Bv t b v W) (k : Kept W W') : Bv t b v W' := (k.block _ h.lt).trans h
theorem Bv.new (W : World) (v : Value) (t : TypeId) : Bv t W.heap.size v (W.alloc (.cells #[v] t)) := World.alloc_heap_new W _
theorem set_other {W : World} {b : Nat} {o : Obj} (h : W.heap[b]? = some o) {a : Addr} {v : Value} (ha : b ≠ a.block) : (W.setCell a v).heap[b]? = some o := by
  rw [Below.heap_setCell _ _ _ _ ha]; exact h
def BRd (v : Value) (l : B) (w : World) : Prop := ∃ a c, v = .slice a l.length c ∧ (l ≠ [] → ∃ g o, a = some ⟨g, o, none⟩ ∧ l.length ≤ c ∧ ∀ (i : Nat) (x : UInt8), l[i]? = some x → w.cell? ⟨g, o + i, none⟩ = some (.int .u8 x.toNat))
theorem BRd.kept {v : Value} {l : B} {w w' : World} (h : BRd v l w) (k : Kept w w') : BRd v l w' := by
  obtain ⟨a, c, hv, h⟩ := h
  refine ⟨a, c, hv, fun hne => ?_⟩
  obtain ⟨g, o, ha, hc, h⟩ := h hne
  exact ⟨g, o, ha, hc, fun i t ht => k.yes (h i t ht)⟩
theorem BRd.slice {v : Value} {l : B} {w : World} (h : BRd v l w) : ∃ a c, v = .slice a l.length c := by
  obtain ⟨a, c, hv, _⟩ := h
  exact ⟨a, c, hv⟩
theorem conv_none (c : Nat) (w : World) : (convert 25 9 (.slice none 0 c)).run Tryz.prog w = .ok (sV []) w := by kernel_rfl
theorem BRd.conv {v : Value} {l : B} {w : World} (h : BRd v l w) : (convert 25 9 v).run Tryz.prog w = .ok (sV l) w := by
  obtain ⟨a, c, rfl, h⟩ := h
  cases l with
  | nil =>
    cases a with
    | none => exact conv_none c w
    | some a => exact run_convert_bytes_back w _ _ _ a c [] Tryz.underlying25 Tryz.underlying5 Tryz.underlying9 (fun j hj => absurd hj (by simp))
  | cons b l =>
    obtain ⟨g, o, rfl, hc, h⟩ := h (by simp)
    exact run_convert_bytes_back w _ _ _ ⟨g, o, none⟩ c (b :: l) Tryz.underlying25 Tryz.underlying5 Tryz.underlying9 (fun j hj => by rw [Addr.add_lit]; exact h j _ (List.getElem?_eq_getElem hj))
theorem str_app (a b : B) : (⟨a.toArray⟩ ++ ⟨b.toArray⟩ : ByteArray) = ⟨(a ++ b).toArray⟩ := by
  apply ByteArray.ext; simp [ByteArray.data_append]
theorem str_lit (s : B) : (⟨s.toArray⟩ : ByteArray).size = s.length := by simp [ByteArray.size]
theorem to_bytes (s : B) (w : World) : ∃ c w', (convert 9 25 (sV s)).run Tryz.prog w = .ok (.slice (some ⟨w.heap.size, 0, none⟩) s.length c) w' ∧ Kept w w' ∧ BRd (.slice (some ⟨w.heap.size, 0, none⟩) s.length c) s w' := by
  have h := Lib.run_convert_string_bytes (P := Tryz.prog) w 9 25 5 ⟨s.toArray⟩ Tryz.underlying9 Tryz.underlying25 Tryz.underlying5
  rw [str_lit] at h
  refine ⟨_, _, h, ?_, ?_⟩
  · exact ⟨rfl, rfl, by rw [Lib.bytesWorld_size]; omega, fun k hk => Lib.bytesWorld_at_old w _ _ k hk, rfl⟩
  · refine ⟨_, _, rfl, fun _ => ⟨_, _, rfl, grownCap_ge _ _ _ _, fun i x hx => ?_⟩⟩
    have hi : i < s.length := (List.getElem?_eq_some_iff.1 hx).1
    rw [Nat.zero_add, Lib.bytesWorld_cell w _ _ i (by rw [str_lit]; exact hi)]
    simp [List.getD, hx]
theorem kept_row {w y z : World} {row : Option Nat} (k : Kept w y) (hg : y.grownBy z row) (hr : ∀ g, row = some g → w.heap.size ≤ g) : Kept w z :=
  ⟨hg.os.trans k.os, hg.output.trans k.output, Nat.le_trans k.size hg.size, fun j hj => (hg.block j (Nat.lt_of_lt_of_le hj k.size) (fun e => by have := hr j e.symm; omega)).trans (k.block j hj), hg.tape.trans k.tape⟩
theorem grown_cell {y z : World} {row : Option Nat} {a : Addr} {v : Value} (hg : y.grownBy z row) (h : y.cell? a = some v) (hne : row ≠ some a.block) : z.cell? a = some v := by
  have hlt : a.block < y.heap.size := by
    unfold World.cell? at h
    split at h
    · rename_i c e1 e2 hb; exact (Array.getElem?_eq_some_iff.1 hb).1
    · cases h
  have hb := hg.block a.block hlt (Ne.symm hne)
  unfold World.cell? at h ⊢
  rw [hb]
  exact h
def OwnB (B0 : Nat) (v : Value) (l : B) (w : World) : Prop := w.ownsRow B0 5 1 v l.length (Lib.byteCells l)
theorem OwnB.nil (B0 : Nat) (w : World) : OwnB B0 (.slice none 0 0) [] w := World.ownsRow_nil _ _ _ _
theorem OwnB.kept {B0 : Nat} {v : Value} {l : B} {w w' : World} (h : OwnB B0 v l w) (k : Kept w w') : OwnB B0 v l w' := own_keep h (k.grownBy none) (fun r hr => by cases hr)
theorem OwnB.rd {B0 : Nat} {v : Value} {l : B} {w : World} (h : OwnB B0 v l w) : BRd v l w := by
  obtain ⟨a, c, hv⟩ := own_slice h
  refine ⟨a, c, hv, fun hne => ?_⟩
  rcases h.2 with ⟨h1, h2⟩ | ⟨g, cap, cur, h1, _, _, hc, _⟩
  · exact absurd (List.length_eq_zero_iff.1 h2) hne
  · rw [h1] at hv
    cases hv
    refine ⟨g, 0, rfl, hc, fun i x hx => ?_⟩
    have h' := h
    rw [h1] at h'
    have := World.ownsRow.cells h' rfl i (.int .u8 x.toNat) (by simp [Lib.byteCells, hx])
    rwa [Addr.add_lit] at this
theorem wp_strB {op : Oper} {a : Act} {w : World} {K : Act → World → Prop} {Q : Exit → Act → World → Prop} (sx x : Operand) (ho : op.op = .call { callee := .builtin .append, args := #[sx, x], argTypes := #[25, 9] })
    (B0 : Nat) (v : Value) (l t : B) (hs : a.eval sx = v) (hO : OwnB B0 v l w) (hx : a.eval x = .string ⟨t.toArray⟩) (hl : l.length + t.length ≤ 100000000000000) (hB : B0 ≤ w.heap.size)
    (h : ∀ v' w', OwnB B0 v' (l ++ t) w' → w.grownBy w' v.ownBlock → K (a.put op.dst v') w') : op.wp Tryz.prog a w K Q := by
  obtain ⟨i0, hi, hz0, hz1, hz2⟩ := info_parts info8
  have hsz : (ByteArray.mk t.toArray).size = t.length := List.size_toArray
  obtain ⟨v', w', hr, h2, h3, h4⟩ := Lib.run_append_own_string (P := Tryz.prog) w B0 25 9 op.type 5 i0 Tryz.underlying25 Tryz.underlying9 hi hz0 hz1 hz2 v l.length (Lib.byteCells l) hO ⟨t.toArray⟩ (by rw [hsz]; unfold maxLen; omega) (by rw [hsz]; omega) hB
  rw [hsz, str_cells, ← byteCells_app] at h2
  unfold Oper.wp execOp
  simp only [ho, resolve, invoke, builtin, Sem.run_bind, Sem.run_pure, Result.andThen_ok, List.map_toArray, List.map_cons, List.map_nil, hs, hx, hr]
  exact h v' w' (by unfold OwnB; rw [List.length_append]; exact h2) h3
theorem wp_byteB {op : Oper} {a : Act} {w : World} {K : Act → World → Prop} {Q : Exit → Act → World → Prop} (sx x : Operand) (ho : op.op = .call { callee := .builtin .append, args := #[sx, x], argTypes := #[25, 25] })
    (B0 : Nat) (v : Value) (l : B) (t : UInt8) (k : Nat) (hs : a.eval sx = v) (hO : OwnB B0 v l w) (hx : a.eval x = .slice (some ⟨k, 0, none⟩) 1 1) (hc : w.cell? ⟨k, 0, none⟩ = some (.int .u8 t.toNat)) (hl : l.length ≤ 100000000000000) (hB : B0 ≤ w.heap.size)
    (h : ∀ v' w', OwnB B0 v' (l ++ [t]) w' → w.grownBy w' v.ownBlock → K (a.put op.dst v') w') : op.wp Tryz.prog a w K Q := by
  obtain ⟨i0, hi, hz0, hz1, hz2⟩ := info_parts info8
  refine wp_append_own w sx x 25 ho B0 5 i0 _ 1 1 Tryz.underlying25 hi hz0 hz1 hz2 rfl (by decide) v l.length (Lib.byteCells l) hs hO ⟨k, 0, none⟩ 1 1 [.int .u8 t.toNat] hx rfl (fun j u hj => ?_) (fun u hu => by simp at hu; subst hu; rfl) (by unfold maxLen; omega) (by omega) hB ?_
  · match j, hj with
    | 0, hj => simp at hj; subst hj; simpa [Addr.add] using hc
  · intro v' w' h2 h3 _
    refine h v' w' ?_ h3
    unfold OwnB
    rw [List.length_append, byteCells_app]
    exact h2
theorem wpList_pushS {ops : Array Oper} {rest : List Oper} {op : Oper} {a : Act} {w : World} {Q : Exit → Act → World → Prop} (hg : op.guard = none) (sx x : Operand) (ho : op.op = .call { callee := .builtin .append, args := #[sx, x], argTypes := #[42, 42] })
    (B0 : Nat) (v : Value) (ls : List B) (t : B) (k : Nat) (hs : a.eval sx = v) (hO : OwnS B0 v ls w) (hx : a.eval x = .slice (some ⟨k, 0, none⟩) 1 1) (hc : w.cell? ⟨k, 0, none⟩ = some (sV t)) (hl : ls.length ≤ 10000000) (hB : B0 ≤ w.heap.size)
    (h : ∀ v' w', OwnS B0 v' (ls ++ [t]) w' → w.grownBy w' v.ownBlock → wpList Tryz.prog ops Q rest (a.put op.dst v') w') : wpList Tryz.prog ops Q (op :: rest) a w :=
  wpList_plain hg fun K hK => wp_pushS sx x ho B0 v ls t k hs hO hx hc hl hB (fun v' w' h1 h2 => hK _ _ (h v' w' h1 h2))
theorem own_one (w : World) (nm : B) : OwnS w.heap.size (.slice (some ⟨w.heap.size, 0, none⟩) 1 1) [nm] (w.alloc (.cells #[sV nm] 9)) := by
  refine ⟨by simp, Or.inr ⟨w.heap.size, 1, #[sV nm], rfl, Nat.le_refl _, World.alloc_heap_new w _, by simp, by decide, rfl, rfl⟩⟩
theorem OwnS.kept {B0 : Nat} {v : Value} {ls : List B} {w w' : World} (h : OwnS B0 v ls w) (k : Kept w w') : OwnS B0 v ls w' := own_keep h (k.grownBy none) NoRow.none
end Go.Proofs.YtjlpkgipdkjfhaaGreatDoor
namespace Go.Proofs.YtjlpkgipdkjfhaaGreatDoor.Pl
open Go.ChangeShapes Go.WideShapes Go.ChangeAt Go.RowKit
open En
def splt (c : UInt8) : List UInt8 → List (List UInt8)
  | [] => [[]]
  | b :: r => if b = c then [] :: splt c r else match splt c r with | [] => [[b]] | p :: q => (b :: p) :: q
theorem splt_ne (c : UInt8) (l : List UInt8) : splt c l ≠ [] := by
  cases l with
  | nil => simp [splt]
  | cons b r => unfold splt; split
                · simp
                · split <;> simp
theorem splt_hit (c : UInt8) (r : List UInt8) : splt c (c :: r) = [] :: splt c r := by rw [splt, if_pos rfl]
theorem splt_miss {b c : UInt8} (h : b ≠ c) (r : List UInt8) : ∃ p q, splt c r = p :: q ∧ splt c (b :: r) = (b :: p) :: q := by
  cases hs : splt c r with
  | nil => exact absurd hs (splt_ne c r)
  | cons p q => exact ⟨p, q, rfl, by rw [splt, if_neg h, hs]⟩
theorem splt_app {c : UInt8} (p r : List UInt8) (h : c ∉ p) : splt c (p ++ c :: r) = p :: splt c r := by
  induction p with
  | nil => exact splt_hit c r
  | cons b p ih =>
    have hb : b ≠ c := fun e => h (by simp [e])
    have hp : c ∉ p := fun e => h (by simp [e])
    rw [List.cons_append, splt, if_neg hb, ih hp]
theorem splt_none {c : UInt8} (p : List UInt8) (h : c ∉ p) : splt c p = [p] := by
  induction p with
  | nil => rfl
  | cons b p ih =>
    have hb : b ≠ c := fun e => h (by simp [e])
    have hp : c ∉ p := fun e => h (by simp [e])
    rw [splt, if_neg hb, ih hp]
theorem cut_cases (c : UInt8) (l : List UInt8) : c ∉ l ∨ ∃ p r, l = p ++ c :: r ∧ c ∉ p := by
  induction l with
  | nil => simp
  | cons b l ih =>
    by_cases hb : b = c
    · exact Or.inr ⟨[], l, by simp [hb], by simp⟩
    · rcases ih with h | ⟨p, r, rfl, hp⟩
      · exact Or.inl (by simp; exact ⟨fun e => hb e.symm, h⟩)
      · exact Or.inr ⟨b :: p, r, by simp, by simp; exact ⟨fun e => hb e.symm, hp⟩⟩
theorem splt_mem {c : UInt8} : ∀ (l : List UInt8), ∀ t ∈ splt c l, c ∉ t ∧ t.length ≤ l.length
  | [], t, h => by simp [splt] at h; subst h; simp
  | b :: r, t, h => by
    by_cases hb : b = c
    · subst hb
      rw [splt_hit] at h
      rcases List.mem_cons.1 h with rfl | h
      · simp
      · have := splt_mem r t h; exact ⟨this.1, by simp; omega⟩
    · obtain ⟨p, q, h1, h2⟩ := splt_miss hb r
      rw [h2] at h
      rcases List.mem_cons.1 h with rfl | h
      · have := splt_mem r p (by rw [h1]; simp)
        exact ⟨by simp; exact ⟨fun e => hb e.symm, this.1⟩, by simp; omega⟩
      · have := splt_mem r t (by rw [h1]; simp [h])
        exact ⟨this.1, by simp; omega⟩
theorem splt_len (c : UInt8) : ∀ l : List UInt8, (splt c l).length ≤ l.length + 1
  | [] => by simp [splt]
  | b :: r => by
    have ih := splt_len c r
    by_cases hb : b = c
    · subst hb; rw [splt_hit]; simp; omega
    · obtain ⟨p, q, h1, h2⟩ := splt_miss hb r
      rw [h2]; rw [h1] at ih; simp at ih ⊢; omega
theorem extract_mk (l : List UInt8) (a b : Nat) : (ByteArray.mk l.toArray).extract a b = ⟨((l.drop a).take (b - a)).toArray⟩ := by
  apply ByteArray.ext
  simp [ByteArray.data_extract]
def OutS (B : Nat) (v : Value) (l : List (List UInt8)) (x : World) : Prop := x.ownsRow B 9 1 v l.length (l.map fun p => Value.string ⟨p.toArray⟩)
theorem OutS.at {B : Nat} {v : Value} {l : List (List UInt8)} {x : World} (h : OutS B v l x) {k : Nat} (hk : k < l.length) : ∃ g cap, v = .slice (some ⟨g, 0, none⟩) l.length cap ∧ ∀ (j : Nat) p, l[j]? = some p → x.cell? ⟨g, j, none⟩ = some (.string ⟨p.toArray⟩) := by
  rcases h.2 with ⟨_, h2⟩ | ⟨g, cap, cur, h1, h2⟩
  · omega
  · refine ⟨g, cap, h1, fun j p hj => ?_⟩
    have hc := World.ownsRow.cells h (g := g) (by rw [h1]; rfl) j (.string ⟨p.toArray⟩) (by simp [hj])
    have ha : ((⟨g, 0, none⟩ : Addr).add j) = ⟨g, j, none⟩ := by simp [Addr.add]; omega
    rw [ha] at hc
    exact hc
theorem OutS.slice {B : Nat} {v : Value} {l : List (List UInt8)} {x : World} (h : OutS B v l x) : ∃ ao cap, v = .slice ao l.length cap := by
  rcases h.2 with ⟨h1, h2⟩ | ⟨g, cap, _, h1, _⟩
  · exact ⟨none, 0, by rw [h1, h2]⟩
  · exact ⟨_, _, h1⟩
def OutSIn (B : Nat) (X : World) (l : List (List UInt8)) (v : Value) (x : World) : Prop := ∃ ao cap, v = .slice ao l.length cap ∧ OutS B v l x ∧ Kept X x
theorem outSIn_app {B : Nat} {X y w7 : World} {l : List (List UInt8)} {u : List UInt8} {v v' : Value} (hB : X.heap.size ≤ B) (hl : OutS B v l y) (hk : Kept X y) {o : Obj} (hg : (y.alloc o).grownBy w7 v.ownBlock)
    (hown' : w7.ownsRow B 9 1 v' (l.length + 1) ((l.map fun p => Value.string ⟨p.toArray⟩) ++ [.string ⟨u.toArray⟩])) : OutSIn B X (l ++ [u]) v' w7 := by
  obtain ⟨g3, cap3, hv3⟩ : ∃ g3 cap3, v' = .slice (some ⟨g3, 0, none⟩) (l.length + 1) cap3 := by
    rcases hown'.2 with ⟨_, hx⟩ | ⟨g3, cap3, _, hx, _⟩
    · omega
    · exact ⟨g3, cap3, hx⟩
  have kk : Kept X w7 := ⟨hg.os.trans hk.os, hg.output.trans hk.output, by have := hk.size; have := hg.size; simp at this; omega, fun j hj => by
    have q1 := hk.size
    have q3 := hl.lt
    rw [hg.block j (by simp; omega) (fun e => by have := q3 j (e.symm); omega), Below.heap_alloc _ _ _ (by omega), hk.block j hj], hg.tape.trans hk.tape⟩
  exact ⟨some ⟨g3, 0, none⟩, cap3, by rw [hv3]; simp, by unfold OutS; rw [List.map_append, List.length_append]; exact hown', kk⟩
def cutF (c : UInt8) (cur : List UInt8) : List UInt8 → List (List UInt8)
  | [] => [cur]
  | b :: r => if b = c then cur :: cutF c [] r else cutF c (cur ++ [b]) r
theorem cutF_eq (c : UInt8) : ∀ (l cur : List UInt8), c ∉ cur → cutF c cur l = splt c (cur ++ l)
  | [], cur, h => by rw [cutF, List.append_nil, splt_none cur h]
  | b :: r, cur, h => by
    rw [cutF]
    by_cases hb : b = c
    · subst hb
      rw [if_pos rfl, splt_app cur r h, cutF_eq b r [] (by simp)]; rfl
    · rw [if_neg hb, cutF_eq c r (cur ++ [b]) (by simp; exact ⟨h, fun e => hb e.symm⟩)]
      simp
theorem cutF_splt (c : UInt8) (l : List UInt8) : cutF c [] l = splt c l := cutF_eq c l [] (by simp)
theorem cutF_step {c : UInt8} {cur l : List UInt8} {k : Nat} {b : UInt8} (h : l[k]? = some b) : cutF c cur (l.drop k) = if b = c then cur :: cutF c [] (l.drop (k + 1)) else cutF c (cur ++ [b]) (l.drop (k + 1)) := by
  have : l.drop k = b :: l.drop (k + 1) := by
    obtain ⟨hk, rfl⟩ := List.getElem?_eq_some_iff.1 h
    exact List.drop_eq_getElem_cons hk
  rw [this, cutF]
theorem stretch_snoc {l : List UInt8} {i k : Nat} {b : UInt8} (hi : i ≤ k) (h : l[k]? = some b) : (l.drop i).take (k + 1 - i) = (l.drop i).take (k - i) ++ [b] := by
  rw [show k + 1 - i = (k - i) + 1 by omega, List.take_add_one, List.getElem?_drop, show i + (k - i) = k by omega, h]; rfl
theorem stretch_end {c : UInt8} {l : List UInt8} {i k : Nat} (hk : k = l.length) : cutF c ((l.drop i).take (k - i)) (l.drop k) = [(l.drop i).take (k - i)] := by
  rw [show l.drop k = [] from List.drop_eq_nil_of_le (by omega), cutF]
set_option maxRecDepth 100000 in
set_option maxHeartbeats 2000000 in
theorem rsplit_any (c : UInt8) (l : List UInt8) (w : World) (hl : l.length ≤ 1000) : Calls Tryz.prog 75 #[.string ⟨l.toArray⟩, .int .u8 c.toNat] w fun e w' => ∃ v, e = .returned v ∧ OutS w.heap.size v (splt c l) w' ∧ Kept w w' := by
  obtain ⟨i0, hi, hz0, hz1, hz2⟩ := info_parts (show (Tryz.prog.info? 9).map (fun i => (i.zero, i.size, i.bytes)) = some (some (.string ⟨#[]⟩), 1, 16) by kernel_rfl)
  go_enter Tryz.func75, Tryz.ntmps75
  go_wp2_with fail
  go_loopw [5, 6, 7] (fun a i j y => ∃ (k s : Nat) (done : List (List UInt8)), s ≤ k ∧ k ≤ l.length + 1 ∧ i = .int .i64 s ∧ j = .int .i64 k ∧ done.length ≤ k ∧ (k ≤ l.length → splt c l = done ++ cutF c ((l.drop s).take (k - s)) (l.drop k)) ∧ (k = l.length + 1 → splt c l = done) ∧ OutSIn w.heap.size w done a y) (fun _ _ j _ => l.length + 1 - (intOf j).toNat)
  case atStart => exact ⟨0, 0, [], Nat.le_refl _, by omega, rfl, rfl, by simp, fun _ => by simp [cutF_splt], fun e => by omega, none, 0, rfl, World.ownsRow_nil _ _ _ _, Kept.refl _⟩
  case round =>
    obtain ⟨k, s, done, hsk, hk, rfl, rfl, hdl, hc, hce, ao, cap, rfl, hown, hkp⟩ := hrel
    have Own := Lib.hid hown; have KP := Lib.hid hkp
    clear hown hkp
    by_cases hle : k ≤ l.length
    · have HX := Lib.hid (extract_mk l s k)
      by_cases hend : k = l.length
      · subst hend
        have HC := Lib.hid (show splt c l = done ++ [(l.drop s).take (l.length - s)] by rw [hc hle, stretch_end rfl])
        clear hc hce
        go_wp2_with (at_builtin; refine wpList_append_own _ rfl _ _ 42 rfl w.heap.size 9 i0 (.string ⟨#[]⟩) 1 16 Tryz.underlying42 hi hz0 hz1 hz2 rfl (by decide) _ _ _ rfl (Own.out.alloc _) ⟨wr.heap.size, 0, none⟩ 1 1 [.string ((ByteArray.mk l.toArray).extract s l.length)] rfl rfl (cell_one_new _ _ _) (fun x hx => by simp at hx; subst hx; rfl) (by unfold maxLen; omega) (by omega) (by have := KP.out.size; simp; omega) ?_; intro v' w7 hown' hgrow hnil)
        rw [HX.out] at hown'
        have HA := outSIn_app (Nat.le_refl _) Own.out KP.out hgrow hown'
        go_roundw
        case rel => exact ⟨l.length + 1, l.length + 1, done ++ [(l.drop s).take (l.length - s)], Nat.le_refl _, Nat.le_refl _, by go_num, by go_num, by rw [List.length_append]; exact Nat.succ_le_succ hdl, fun h => by omega, fun _ => HC.out, HA⟩
        case measure => simp [intOf]
      · have hlt : k < l.length := by omega
        obtain ⟨b, hb⟩ : ∃ b, l[k]? = some b := ⟨_, List.getElem?_eq_getElem hlt⟩
        have hat := byte_at l k b hb
        have hI : ¬ (k : Int) = (l.length : Int) := by omega
        have hcc := hc hle
        rw [cutF_step hb] at hcc
        have HSN := Lib.hid (stretch_snoc hsk hb)
        by_cases hbc : b = c
        · rw [if_pos hbc] at hcc
          have HC := Lib.hid hcc
          have hbI : (b.toNat : Int) = (c.toNat : Int) := by rw [hbc]
          clear hc hce hcc hb hbc hend
          go_wp2_with (at_builtin; refine wpList_append_own _ rfl _ _ 42 rfl w.heap.size 9 i0 (.string ⟨#[]⟩) 1 16 Tryz.underlying42 hi hz0 hz1 hz2 rfl (by decide) _ _ _ rfl (Own.out.alloc _) ⟨wr.heap.size, 0, none⟩ 1 1 [.string ((ByteArray.mk l.toArray).extract s k)] rfl rfl (cell_one_new _ _ _) (fun x hx => by simp at hx; subst hx; rfl) (by unfold maxLen; omega) (by omega) (by have := KP.out.size; simp; omega) ?_; intro v' w7 hown' hgrow hnil)
          rw [HX.out] at hown'
          have HA := outSIn_app (Nat.le_refl _) Own.out KP.out hgrow hown'
          go_roundw
          case rel => exact ⟨k + 1, k + 1, done ++ [(l.drop s).take (k - s)], Nat.le_refl _, by omega, by go_num, by go_num, by simp; omega, fun h => by rw [HC.out]; simp, fun h => by omega, HA⟩
          case measure => simp [intOf]; omega
        · rw [if_neg hbc, ← HSN.out] at hcc
          have HC := Lib.hid hcc
          have hbI : ¬ (b.toNat : Int) = (c.toNat : Int) := fun e => hbc (UInt8.toNat_inj.1 (by omega))
          have hbB : ((b.toNat : Int) == (c.toNat : Int)) = false := beq_eq_false_iff_ne.2 hbI
          clear hc hce hcc hb hbc hend
          go_wp2
          go_roundw
          case rel => exact ⟨k + 1, s, done, by omega, by omega, by go_num, by go_num, by omega, fun h => HC.out, fun h => by omega, ao, cap, rfl, Own.out, KP.out⟩
          case measure => simp [intOf]; omega
    · have HC := Lib.hid (hce (by omega))
      clear hc hce
      go_wp2
      go_ret
      rw [HC.out]
      exact ⟨_, rfl, Own.out, KP.out⟩
end Go.Proofs.YtjlpkgipdkjfhaaGreatDoor.Pl
namespace Go.Proofs.YtjlpkgipdkjfhaaGreatDoor.Pl
open En
theorem trF_le : ∀ (l : B) (s g : Bool), (trF s g l).length ≤ l.length + (if g = true then 1 else 0)
  | [], s, g => by simp [trF]
  | c :: r, s, g => by
    cases hc : spB c with
    | true =>
      rw [trF_sp hc]
      have := trF_le r s s
      simp only [List.length_cons]
      split at this <;> split <;> omega
    | false =>
      rw [trF_no hc]
      have := trF_le r true false
      simp only [List.length_append, List.length_cons]
      simp only [Bool.false_eq_true, if_false] at this
      cases g <;> simp <;> omega
theorem tr_le (l : B) : (tr l).length ≤ l.length := by have := trF_le l false false; simpa [tr] using this
theorem wordsF_no : ∀ (l cur : B), (∀ c ∈ cur, spB c = false) → ∀ w ∈ wordsF cur l, ∀ c ∈ w, spB c = false
  | [], cur, h, w, hw => by
    rw [wordsF] at hw
    by_cases q : cur = []
    · rw [if_pos q] at hw; cases hw
    · rw [if_neg q] at hw
      simp only [List.mem_singleton] at hw
      subst hw; exact h
  | a :: r, cur, h, w, hw => by
    rw [wordsF] at hw
    split at hw
    · split at hw
      · exact wordsF_no r [] (by simp) w hw
      · rcases List.mem_cons.1 hw with rfl | hw
        · exact h
        · exact wordsF_no r [] (by simp) w hw
    · rename_i hc
      refine wordsF_no r (cur ++ [a]) (fun c hc' => ?_) w hw
      rcases List.mem_append.1 hc' with q | q
      · exact h c q
      · simp only [List.mem_singleton] at q
        subst q; simpa using hc
def WdP (ws : List B) : Prop := ∀ w ∈ ws, w ≠ [] ∧ ∀ c ∈ w, spB c = false
theorem words_wd (l : B) : WdP (words l) := fun w hw => ⟨(wordsF_all l [] w hw).1, wordsF_no l [] (by simp) w hw⟩
theorem WdP.tail {w : B} {ws : List B} (h : WdP (w :: ws)) : WdP ws := fun x hx => h x (by simp [hx])
theorem WdP.no32 {ws : List B} (h : WdP ws) {w : B} (hw : w ∈ ws) : (32 : UInt8) ∉ w := fun e => by have := (h w hw).2 32 e; rw [sp32] at this; cases this
def spw (ws : List B) : B := (ws.map fun w => 32 :: w).flatten
theorem spw_nil : spw [] = [] := rfl
theorem spw_cons (w : B) (ws : List B) : spw (w :: ws) = 32 :: w ++ spw ws := by simp [spw]
theorem fold_addW : ∀ (ws : List B) (acc : B), acc ≠ [] → ws.foldl addW acc = acc ++ spw ws
  | [], acc, _ => by simp [spw]
  | w :: ws, acc, h => by
    have e : addW acc w = acc ++ 32 :: w := by unfold addW; rw [if_neg h]
    rw [List.foldl_cons, fold_addW ws _ (by rw [e]; simp), e, spw_cons]
    simp
theorem jn_cons {w : B} (ws : List B) (h : w ≠ []) : jn (w :: ws) = w ++ spw ws := by
  unfold jn
  rw [List.foldl_cons, show addW [] w = w from rfl, fold_addW ws w h]
theorem jn_ne {ws : List B} (hw : WdP ws) (h : ws ≠ []) : jn ws ≠ [] := by
  cases ws with
  | nil => exact absurd rfl h
  | cons w ws =>
    have := (hw w (by simp)).1
    rw [jn_cons _ this]; simp [this]
theorem splt_spw : ∀ (ws : List B) (w : B), (32 : UInt8) ∉ w → (∀ x ∈ ws, (32 : UInt8) ∉ x) → splt 32 (w ++ spw ws) = w :: ws
  | [], w, h, _ => by rw [spw_nil, List.append_nil, splt_none w h]
  | x :: ws, w, h, hx => by
    rw [spw_cons, List.cons_append, splt_app w _ h, splt_spw ws x (hx x (by simp)) (fun y hy => hx y (by simp [hy]))]
theorem splt_jn {ws : List B} (hw : WdP ws) (h : ws ≠ []) : splt 32 (jn ws) = ws := by
  cases ws with
  | nil => exact absurd rfl h
  | cons w ws =>
    rw [jn_cons _ (hw w (by simp)).1, splt_spw ws w (hw.no32 (by simp)) (fun x hx => hw.no32 (by simp [hx]))]
def wds (s : B) : List B := if tr s = [] then [] else splt 32 (tr s)
theorem wds_eq (s : B) : wds s = words s := by
  have h := tr_words s
  have hw := words_wd s
  unfold wds
  by_cases e : words s = []
  · rw [e] at h ⊢
    exact if_pos h
  · rw [h, if_neg (jn_ne hw e), splt_jn hw e]
theorem wds_ne (s : B) : ∀ w ∈ wds s, w ≠ [] := fun w hw => by rw [wds_eq] at hw; exact (words_wd s w hw).1
def filC (most : Int) : List B → List B → List (List B)
  | [], cs => [cs]
  | w :: ws, cs => if cs ≠ [] ∧ most < ((jn cs).length : Int) + 1 + w.length then cs :: filC most ws [w] else filC most ws (cs ++ [w])
theorem fil_chunks (most : Int) : ∀ (ws cs : List B), WdP cs → WdP ws → fil most ws (jn cs) = (filC most ws cs).map jn
  | [], cs, _, _ => rfl
  | w :: ws, cs, hc, hw => by
    have h1 := (hw w (by simp)).1
    have hw1 : WdP [w] := fun x hx => by simp at hx; subst hx; exact hw x (by simp)
    have hcw : WdP (cs ++ [w]) := fun x hx => by
      rcases List.mem_append.1 hx with q | q
      · exact hc x q
      · exact hw1 x q
    have ej : jn [w] = w := by rw [jn_cons _ h1]; simp [spw]
    have en : jn cs ≠ [] ↔ cs ≠ [] := ⟨fun h e => h (by rw [e]; rfl), fun h => jn_ne hc h⟩
    rw [fil, filC]
    by_cases q : cs ≠ [] ∧ most < ((jn cs).length : Int) + 1 + w.length
    · rw [if_pos q, if_pos ⟨en.2 q.1, q.2⟩, List.map_cons, ← fil_chunks most ws [w] hw1 hw.tail, ej]
    · rw [if_neg q, if_neg (fun e => q ⟨en.1 e.1, e.2⟩), ← fil_chunks most ws (cs ++ [w]) hcw hw.tail, jn_snoc]
      congr 1
      unfold addW
      split <;> simp
theorem filC_head (most : Int) : ∀ (ws cs : List B), ∃ x r, filC most ws cs = (cs ++ x) :: r
  | [], cs => ⟨[], [], by simp [filC]⟩
  | w :: ws, cs => by
    rw [filC]
    split
    · exact ⟨[], filC most ws [w], by simp⟩
    · obtain ⟨x, r, h⟩ := filC_head most ws (cs ++ [w])
      exact ⟨w :: x, r, by rw [h]; simp⟩
def wrp (most : Int) (s : B) : List B := if most < 1 then [] else (splt 10 s).flatMap fun x => fil most (wds x) []
theorem fil_one (most : Int) (s : B) : fil most (wds s) [] = (filC most (words s) []).map jn := by
  rw [wds_eq]
  exact fil_chunks most (words s) [] (fun w h => by simp at h) (words_wd s)
theorem fil_ne (most : Int) (s : B) : fil most (wds s) [] ≠ [] := by
  rw [fil_one]
  obtain ⟨x, r, h⟩ := filC_head most (words s) []
  rw [h]; simp
theorem fil_len (most : Int) : ∀ (ws : List B) (made : B), (fil most ws made).length ≤ ws.length + 1
  | [], made => by simp [fil]
  | w :: ws, made => by
    rw [fil]
    split
    · have := fil_len most ws w; simp only [List.length_cons]; omega
    · have := fil_len most ws (if made = [] then w else made ++ [32] ++ w); simp only [List.length_cons]; omega
end Go.Proofs.YtjlpkgipdkjfhaaGreatDoor.Pl
