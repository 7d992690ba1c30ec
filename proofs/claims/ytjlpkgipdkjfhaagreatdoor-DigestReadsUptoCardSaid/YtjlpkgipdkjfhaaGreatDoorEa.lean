import Derived.RowKit
import Derived.KernelRfl
import Derived.Test.YtjlpkgipdkjfhaaGreatDoorKept
import Derived.Lib.AppendStr
import Derived.Lib.BufferRead
import Derived.Great.BuildSlice
import Derived.Maps.AppendAt
import Derived.Deep.Cut
import Derived.Lib.TrimUEq
import Derived.Lib.OthersKept
set_option linter.unusedVariables false
set_option linter.unusedSimpArgs false
namespace Go.Proofs.YtjlpkgipdkjfhaaGreatDoor.En
def okN (n : Int) : Bool := decide (n = 9 ∨ n = 10 ∨ n = 13 ∨ (32 ≤ n ∧ n ≤ 55295) ∨ (57344 ≤ n ∧ n ≤ 65533) ∨ (65536 ≤ n ∧ n ≤ 1114111))
def by8 (n : Int) : UInt8 := UInt8.ofNat n.toNat
def utf (n : Int) : List UInt8 :=
  if n < 128 then [by8 n] else if n < 2048 then [by8 (192 + n / 64), by8 (128 + n % 64)]
  else if n < 65536 then [by8 (224 + n / 4096), by8 (128 + n / 64 % 64), by8 (128 + n % 64)]
  else [by8 (240 + n / 262144), by8 (128 + n / 4096 % 64), by8 (128 + n / 64 % 64), by8 (128 + n % 64)]
def rn (n : Int) : Option (List UInt8) := if okN n = true then some (utf n) else none
def dg (c : UInt8) : Int := if 48 ≤ c.toNat ∧ c.toNat ≤ 57 then (c.toNat : Int) - 48 else if 97 ≤ c.toNat ∧ c.toNat ≤ 102 then (c.toNat : Int) - 87 else if 65 ≤ c.toNat ∧ c.toNat ≤ 70 then (c.toNat : Int) - 55 else 99
theorem dg_bd (c : UInt8) : 0 ≤ dg c ∧ dg c ≤ 99 := by unfold dg; split <;> (try split) <;> (try split) <;> omega
def numF (base acc : Int) : List UInt8 → Option Int
  | [] => some acc
  | c :: r => if dg c < base then numF base (base * acc + dg c) r else none
def num (base : Int) (l : List UInt8) : Option Int := if l = [] then none else numF base 0 l
def sg (b : List UInt8) : Option (List UInt8) :=
  if b = [97, 109, 112] then some [38] else if b = [108, 116] then some [60] else if b = [103, 116] then some [62]
  else if b = [113, 117, 111, 116] then some [34] else if b = [97, 112, 111, 115] then some [39]
  else match b with
    | 35 :: 120 :: r => (num 16 r).bind rn
    | 35 :: r => (num 10 r).bind rn
    | _ => none
def bdF : Nat → List UInt8 → List UInt8 → Option (List UInt8)
  | 0, _, _ => none
  | _ + 1, _, [] => none
  | k + 1, acc, c :: r => if c = 38 then none else if c = 59 then (if acc = [] then none else some acc) else bdF k (acc ++ [c]) r
def en (r : List UInt8) : Option (List UInt8 × Nat) := (bdF 11 [] r).bind fun b => (sg b).map fun x => (x, b.length + 1)
def goF : Nat → List UInt8 → List UInt8 × Bool
  | 0, _ => ([], true)
  | _ + 1, [] => ([], true)
  | n + 1, c :: r =>
    if c = 38 then
      match en r with
      | some (x, k) => (x ++ (goF n (r.drop k)).1, (goF n (r.drop k)).2)
      | none => (c :: (goF n r).1, false)
    else (c :: (goF n r).1, (goF n r).2)
def gone (l : List UInt8) : List UInt8 × Bool := goF l.length l
def encC (c : UInt8) : List UInt8 := if c = 38 then [38, 97, 109, 112, 59] else if c = 60 then [38, 108, 116, 59] else if c = 62 then [38, 103, 116, 59] else if c = 34 then [38, 113, 117, 111, 116, 59] else [c]
def enc (l : List UInt8) : List UInt8 := l.flatMap encC
def spB (c : UInt8) : Bool := c.toNat == 9 || c.toNat == 10 || c.toNat == 13 || c.toNat == 32
def trF : Bool → Bool → List UInt8 → List UInt8
  | _, _, [] => []
  | s, gap, c :: r => if spB c = true then trF s s r else (if gap = true then [32, c] else [c]) ++ trF true false r
def tr (l : List UInt8) : List UInt8 := trF false false l
theorem utf_le (n : Int) : (utf n).length ≤ 4 := by unfold utf; split <;> (try split) <;> (try split) <;> simp
theorem num_ne {base : Int} {l : List UInt8} {n : Int} (h : num base l = some n) : l ≠ [] := fun e => by rw [e] at h; cases h
theorem sg_len {b x : List UInt8} (h : sg b = some x) : x.length ≤ b.length + 2 := by
  unfold sg at h
  by_cases e1 : b = [97, 109, 112]
  · rw [if_pos e1] at h; cases h; rw [e1]; simp
  rw [if_neg e1] at h
  by_cases e2 : b = [108, 116]
  · rw [if_pos e2] at h; cases h; rw [e2]; simp
  rw [if_neg e2] at h
  by_cases e3 : b = [103, 116]
  · rw [if_pos e3] at h; cases h; rw [e3]; simp
  rw [if_neg e3] at h
  by_cases e4 : b = [113, 117, 111, 116]
  · rw [if_pos e4] at h; cases h; rw [e4]; simp
  rw [if_neg e4] at h
  by_cases e5 : b = [97, 112, 111, 115]
  · rw [if_pos e5] at h; cases h; rw [e5]; simp
  rw [if_neg e5] at h
  have key : ∀ {m : Int} {y : List UInt8}, rn m = some y → y.length ≤ 4 := fun {m y} q => by
    unfold rn at q
    split at q
    · cases q; exact utf_le m
    · cases q
  split at h
  · rename_i r
    cases hn : num 16 r with
    | none => rw [hn] at h; cases h
    | some m => rw [hn] at h; have := key h; have := List.length_pos_iff.2 (num_ne hn); simp; omega
  · rename_i r _
    cases hn : num 10 r with
    | none => rw [hn] at h; cases h
    | some m => rw [hn] at h; have := key h; have := List.length_pos_iff.2 (num_ne hn); simp; omega
  · cases h
theorem goF_more : ∀ (n m : Nat) (l : List UInt8), l.length ≤ n → n ≤ m → goF m l = goF n l
  | 0, 0, _, _, _ => rfl
  | 0, m + 1, l, h, _ => by
    obtain rfl : l = [] := List.length_eq_zero_iff.1 (by omega)
    rfl
  | n + 1, m + 1, [], _, _ => rfl
  | n + 1, m + 1, c :: r, h, h2 => by
    simp only [List.length_cons] at h
    have e1 : goF m r = goF n r := goF_more n m r (by omega) (by omega)
    have e2 : ∀ k, goF m (r.drop k) = goF n (r.drop k) := fun k => goF_more n m _ (by rw [List.length_drop]; omega) (by omega)
    rw [goF, goF, e1]
    split
    · cases en r with
      | none => rfl
      | some p => obtain ⟨x, k⟩ := p; simp only [e2]
    · rfl
theorem gone_nil : gone [] = ([], true) := rfl
theorem gone_cons (c : UInt8) (r : List UInt8) : gone (c :: r) = if c = 38 then (match en r with | some (x, k) => (x ++ (gone (r.drop k)).1, (gone (r.drop k)).2) | none => (c :: (gone r).1, false)) else (c :: (gone r).1, (gone r).2) := by
  have e : ∀ k, goF r.length (r.drop k) = gone (r.drop k) := fun k => goF_more _ _ _ (Nat.le_refl _) (by rw [List.length_drop]; omega)
  unfold gone at e ⊢
  rw [List.length_cons, goF]
  simp only [e]
theorem gone_plain {l : List UInt8} (h : (38 : UInt8) ∉ l) : gone l = (l, true) := by
  induction l with
  | nil => rfl
  | cons c r ih =>
    simp only [List.mem_cons, not_or] at h
    rw [gone_cons, if_neg (fun e => h.1 e.symm), ih h.2]
theorem bdF_app (b : List UInt8) : ∀ (n : Nat) (acc l x : List UInt8), bdF n acc l = some x → bdF n acc (l ++ b) = some x
  | 0, _, _, _, h => by simp [bdF] at h
  | n + 1, _, [], _, h => by simp [bdF] at h
  | n + 1, acc, c :: r, x, h => by
    rw [List.cons_append, bdF] at *
    by_cases h1 : c = 38
    · rw [if_pos h1] at h; cases h
    · rw [if_neg h1] at h ⊢
      by_cases h2 : c = 59
      · rw [if_pos h2] at h ⊢; exact h
      · rw [if_neg h2] at h ⊢; exact bdF_app b n _ r x h
theorem bdF_len : ∀ (n : Nat) (acc l x : List UInt8), bdF n acc l = some x → x.length + 1 ≤ acc.length + l.length ∧ acc.length ≤ x.length
  | 0, _, _, _, h => by simp [bdF] at h
  | n + 1, _, [], _, h => by simp [bdF] at h
  | n + 1, acc, c :: r, x, h => by
    rw [bdF] at h
    by_cases h1 : c = 38
    · rw [if_pos h1] at h; cases h
    · rw [if_neg h1] at h
      by_cases h2 : c = 59
      · rw [if_pos h2] at h
        by_cases h3 : acc = []
        · rw [if_pos h3] at h; cases h
        · rw [if_neg h3] at h; cases h; simp
      · rw [if_neg h2] at h
        have := bdF_len n _ r x h
        simp at this ⊢; omega
theorem en_app {r x : List UInt8} {k : Nat} (b : List UInt8) (h : en r = some (x, k)) : en (r ++ b) = some (x, k) ∧ k ≤ r.length := by
  unfold en at h ⊢
  cases hb : bdF 11 [] r with
  | none => rw [hb] at h; cases h
  | some y =>
    rw [hb] at h
    rw [bdF_app b _ _ _ _ hb]
    refine ⟨h, ?_⟩
    have hl := bdF_len _ _ _ _ hb
    simp only [Option.bind_some, Option.map_eq_some_iff, Prod.mk.injEq] at h
    obtain ⟨_, _, _, rfl⟩ := h
    simp at hl; omega
theorem gone_app_n (b : List UInt8) : ∀ (n : Nat) (l : List UInt8), l.length ≤ n → (gone l).2 = true → gone (l ++ b) = ((gone l).1 ++ (gone b).1, (gone b).2)
  | _, [], _, _ => by simp [gone_nil]
  | 0, c :: r, h, _ => by simp at h
  | n + 1, c :: r, h, hf => by
    simp only [List.length_cons] at h
    rw [List.cons_append, gone_cons] at *
    by_cases hc : c = 38
    · rw [if_pos hc] at hf ⊢
      rw [gone_cons, if_pos hc]
      cases he : en r with
      | none => rw [he] at hf; cases hf
      | some p =>
        obtain ⟨x, k⟩ := p
        rw [he] at hf
        obtain ⟨e1, e2⟩ := en_app b he
        rw [e1]
        simp only at hf ⊢
        rw [List.drop_append_of_le_length e2, gone_app_n b n _ (by rw [List.length_drop]; omega) hf]
        simp
    · rw [if_neg hc] at hf ⊢
      rw [gone_cons, if_neg hc, gone_app_n b n r (by omega) hf]
      simp
theorem gone_app {l : List UInt8} (b : List UInt8) (h : (gone l).2 = true) : gone (l ++ b) = ((gone l).1 ++ (gone b).1, (gone b).2) := gone_app_n b _ l (Nat.le_refl _) h
theorem encC_len (c : UInt8) : (encC c).length ≤ 6 := by unfold encC; split <;> (try split) <;> (try split) <;> (try split) <;> simp
theorem enc_len (l : List UInt8) : (enc l).length ≤ 6 * l.length := by
  induction l with
  | nil => simp [enc]
  | cons c r ih =>
    have := encC_len c
    have e : enc (c :: r) = encC c ++ enc r := rfl
    rw [e, List.length_append, List.length_cons]; omega
theorem trF_sp {s g : Bool} {c : UInt8} {r : List UInt8} (h : spB c = true) : trF s g (c :: r) = trF s s r := by rw [trF, if_pos h]
theorem trF_no {s g : Bool} {c : UInt8} {r : List UInt8} (h : spB c = false) : trF s g (c :: r) = (if g = true then [32, c] else [c]) ++ trF true false r := by rw [trF, if_neg (by rw [h]; decide)]
theorem sp32 : spB 32 = true := by decide
theorem trF_len : ∀ (l : List UInt8) (s g : Bool), (trF s g l).length ≤ 2 * l.length
  | [], _, _ => by simp [trF]
  | c :: r, s, g => by
    cases hc : spB c with
    | true => rw [trF_sp hc]; have := trF_len r s s; simp; omega
    | false => rw [trF_no hc]; have := trF_len r true false; cases g <;> simp <;> omega
def dgc (v : Int) : UInt8 := if v < 10 then by8 (48 + v) else by8 (87 + v)
def isD (c : UInt8) : Bool := c != 38 && c != 59 && c != 120
theorem dgc_is {v : Int} (h0 : 0 ≤ v) (h1 : v < 16) : dg (dgc v) = v ∧ isD (dgc v) = true := by
  have key : ∀ n : Fin 16, dg (dgc (n.val : Int)) = (n.val : Int) ∧ isD (dgc (n.val : Int)) = true := by decide +kernel
  have := key ⟨v.toNat, by omega⟩
  simp only at this
  rw [show ((v.toNat : Nat) : Int) = v by omega] at this
  exact this
structure NumI (base n k : Int) (d : List UInt8) : Prop where
  lo : 0 ≤ k
  hi : k ≤ n
  val : numF base k d = some n
  dig : ∀ c ∈ d, isD c = true
  len : (d = [] ∧ k = n) ∨ (1 ≤ d.length ∧ base ^ (d.length - 1) ≤ n ∧ k * base ^ d.length ≤ n)
theorem NumI.start {base n : Int} (h : 0 ≤ n) : NumI base n n [] := ⟨h, Int.le_refl _, rfl, (fun c hc => by cases hc), Or.inl ⟨rfl, rfl⟩⟩
theorem NumI.next {base n k : Int} {d : List UInt8} (h : NumI base n k d) (hk : 0 < k) (b1 : 2 ≤ base) (b2 : base ≤ 16) : NumI base n (k / base) (dgc (k % base) :: d) := by
  have m1 := Int.emod_nonneg k (show base ≠ 0 by omega)
  have m2 := Int.emod_lt_of_pos k (show 0 < base by omega)
  have m3 := Int.mul_ediv_add_emod k base
  obtain ⟨e1, e2⟩ := dgc_is m1 (show k % base < 16 by omega)
  have hq0 : 0 ≤ k / base := Int.ediv_nonneg h.lo (by omega)
  have hq1 : k / base ≤ k := Int.ediv_le_self _ h.lo
  refine ⟨hq0, Int.le_trans hq1 h.hi, ?_, ?_, Or.inr ?_⟩
  · rw [numF, e1, if_pos m2, m3]; exact h.val
  · intro c hc
    rcases List.mem_cons.1 hc with rfl | hc
    · exact e2
    · exact h.dig c hc
  · have hpos : ∀ m : Nat, 0 < base ^ m := fun m => Int.pow_pos (by omega)
    have kb : k / base * base ≤ k := Int.ediv_mul_le _ (by omega)
    refine ⟨by simp, ?_, ?_⟩
    · rw [List.length_cons, Nat.add_sub_cancel]
      rcases h.len with ⟨rfl, rfl⟩ | ⟨q1, q2, q3⟩
      · simp; omega
      · exact Int.le_trans (Int.le_trans (by rw [Int.one_mul]; exact Int.le_refl _) (Int.mul_le_mul_of_nonneg_right (show 1 ≤ k by omega) (Int.le_of_lt (hpos _)))) q3
    · rw [List.length_cons, Int.pow_succ, Int.mul_comm (base ^ d.length) base, ← Int.mul_assoc]
      rcases h.len with ⟨rfl, rfl⟩ | ⟨q1, q2, q3⟩
      · simpa using kb
      · exact Int.le_trans (Int.mul_le_mul_of_nonneg_right kb (Int.le_of_lt (hpos _))) q3
theorem NumI.done {base n k : Int} {d : List UInt8} (h : NumI base n k d) (hk : ¬ 0 < k) (hn : 1 ≤ n) (hn2 : n ≤ 1114111) (b : base = 10 ∨ base = 16) : num base d = some n ∧ d ≠ [] ∧ d.length ≤ 7 := by
  have h0 : k = 0 := by have := h.lo; omega
  subst h0
  rcases h.len with ⟨_, q⟩ | ⟨q1, q2, q3⟩
  · omega
  · have hne : d ≠ [] := fun e => by rw [e] at q1; simp at q1
    refine ⟨by unfold En.num; rw [if_neg hne]; exact h.val, hne, ?_⟩
    by_cases hl : d.length ≤ 7
    · exact hl
    · exfalso
      have e : d.length - 1 = 7 + (d.length - 8) := by omega
      rw [e, Int.pow_add] at q2
      have p1 : (1 : Int) ≤ base ^ (d.length - 8) := by
        have : 0 < base ^ (d.length - 8) := Int.pow_pos (by omega)
        omega
      have p2 : (10000000 : Int) ≤ base ^ 7 := by rcases b with rfl | rfl <;> decide
      have p3 : base ^ 7 * 1 ≤ base ^ 7 * base ^ (d.length - 8) := Int.mul_le_mul_of_nonneg_left p1 (by omega)
      omega
theorem isD_of {c : UInt8} (h : isD c = true) : c ≠ 38 ∧ c ≠ 59 ∧ c ≠ 120 := by
  unfold isD at h
  simp only [Bool.and_eq_true, bne_iff_ne] at h
  exact ⟨h.1.1, h.1.2, h.2⟩
theorem gone_len : ∀ (n : Nat) (l : List UInt8), l.length ≤ n → (gone l).1.length ≤ l.length := by
  intro n
  induction n with
  | zero =>
    intro l hl
    obtain rfl : l = [] := List.length_eq_zero_iff.1 (by omega)
    simp [gone_nil]
  | succ n ih =>
    intro l hl
    cases l with
    | nil => simp [gone_nil]
    | cons c r =>
      simp only [List.length_cons] at hl
      rw [gone_cons]
      by_cases hc : c = 38
      · rw [if_pos hc]
        cases he : en r with
        | none => simp only [List.length_cons]; have := ih r (by omega); omega
        | some p =>
          obtain ⟨x, k⟩ := p
          have hk := (en_app [] he).2
          have hx : x.length ≤ k + 1 := by
            unfold en at he
            cases hb : bdF 11 [] r with
            | none => rw [hb] at he; cases he
            | some y =>
              rw [hb] at he
              simp only [Option.bind_some, Option.map_eq_some_iff, Prod.mk.injEq] at he
              obtain ⟨x', h1, rfl, rfl⟩ := he
              have := sg_len h1
              omega
          simp only [List.length_append, List.length_cons]
          have := ih (r.drop k) (by rw [List.length_drop]; omega)
          rw [List.length_drop] at this
          omega
      · rw [if_neg hc]; simp only [List.length_cons]; have := ih r (by omega); omega
end Go.Proofs.YtjlpkgipdkjfhaaGreatDoor.En
namespace Go.Proofs.YtjlpkgipdkjfhaaGreatDoor
open Go.ChangeShapes Go.WideShapes Go.ChangeAt Go.RowKit
open En
theorem info8 : (Tryz.prog.info? 5).map (fun i => (i.zero, i.size, i.bytes)) = some (some (.int .u8 0), 1, 1) := by kernel_rfl
theorem byte_at (l : List UInt8) (k : Nat) (a : UInt8) (h : l[k]? = some a) (hk : k < (ByteArray.mk l.toArray).size) : (ByteArray.mk l.toArray)[k]'hk = a := by
  obtain ⟨h1, h2⟩ := List.getElem?_eq_some_iff.1 h
  rw [← h2]; rfl
theorem eb_ret {a b : Bool} (h : a = b) : Ending.returned (.bool a) = .returned (.bool b) := by rw [h]
theorem u8_eq {a b : UInt8} (h : (a.toNat : Int) = (b.toNat : Int)) : a = b := UInt8.toNat_inj.1 (by omega)
theorem u8_ne {a b : UInt8} (h : ¬ (a.toNat : Int) = (b.toNat : Int)) : ¬ a = b := fun e => h (by rw [e])
abbrev bc (l : List UInt8) : List Value := l.map fun b => Value.int .u8 (b.toNat : Int)
def OutB (B : Nat) (v : Value) (l : List UInt8) (x : World) : Prop := x.ownsRow B 5 1 v l.length (bc l)
theorem OutB.nil (B : Nat) (x : World) : OutB B (.slice none 0 0) [] x := World.ownsRow_nil _ _ _ _
theorem OutB.kept {B : Nat} {v : Value} {l : List UInt8} {x x' : World} (h : OutB B v l x) (k : Kept x x') : OutB B v l x' :=
  World.ownsRow.kept h (k.grownBy none) (by cases hv : v.ownBlock <;> simp)
theorem OutB.slice {B : Nat} {v : Value} {l : List UInt8} {x : World} (h : OutB B v l x) : ∃ ao cap, v = .slice ao l.length cap := by
  rcases h.2 with ⟨h1, h2⟩ | ⟨g, cap, _, h1, _⟩
  · exact ⟨none, 0, by rw [h1, h2]⟩
  · exact ⟨_, _, h1⟩
def OutBIn (B : Nat) (X : World) (l : List UInt8) (v : Value) (x : World) : Prop := ∃ ao cap, v = .slice ao l.length cap ∧ OutB B v l x ∧ Kept X x
theorem kept_grown {B : Nat} {X y w7 : World} {l : List UInt8} {v : Value} (hB : X.heap.size ≤ B) (hl : OutB B v l y) (hk : Kept X y) (hg : y.grownBy w7 v.ownBlock) : Kept X w7 :=
  ⟨hg.os.trans hk.os, hg.output.trans hk.output, Nat.le_trans hk.size hg.size, fun j hj => by
    have q1 := hk.size
    have q3 := hl.lt
    rw [hg.block j (by omega) (fun e => by have := q3 j (e.symm); omega), hk.block j hj], hg.tape.trans hk.tape⟩
theorem outB_in {B : Nat} {X w7 : World} {l u : List UInt8} {v' : Value} (kk : Kept X w7) (hown' : w7.ownsRow B 5 1 v' (l.length + u.length) (bc l ++ bc u)) : OutBIn B X (l ++ u) v' w7 := by
  have h : OutB B v' (l ++ u) w7 := by unfold OutB bc; rw [List.map_append, List.length_append]; exact hown'
  obtain ⟨ao, cap, hv⟩ := h.slice
  exact ⟨ao, cap, hv, h, kk⟩
theorem outB_one {B : Nat} {X y w7 : World} {l : List UInt8} {b : UInt8} {v v' : Value} (hB : X.heap.size ≤ B) (hl : OutB B v l y) (hk : Kept X y) {o : Obj} (hg : (y.alloc o).grownBy w7 v.ownBlock)
    (hown' : w7.ownsRow B 5 1 v' (l.length + 1) (bc l ++ [.int .u8 (b.toNat : Int)])) : OutBIn B X (l ++ [b]) v' w7 :=
  outB_in (kept_grown hB (hl.kept ((Kept.refl y).alloc o)) (hk.alloc o) hg) hown'
theorem outB_str {B : Nat} {X y w7 : World} {l u : List UInt8} {v v' : Value} (hB : X.heap.size ≤ B) (hl : OutB B v l y) (hk : Kept X y) (hg : y.grownBy w7 v.ownBlock)
    (hown' : w7.ownsRow B 5 1 v' (l.length + (ByteArray.mk u.toArray).size) (bc l ++ Lib.strCells ⟨u.toArray⟩)) : OutBIn B X (l ++ u) v' w7 :=
  outB_in (kept_grown hB hl hk hg) (by
    have e : Lib.strCells ⟨u.toArray⟩ = bc u := by simp [Lib.strCells, bc]
    have e2 : (ByteArray.mk u.toArray).size = u.length := List.size_toArray
    rw [e, e2] at hown'; exact hown')
theorem conv_out {B : Nat} {v : Value} {l : List UInt8} {x : World} (h : OutB B v l x) : (convert 25 9 v).run Tryz.prog x = .ok (.string ⟨l.toArray⟩) x := by
  rcases h.2 with ⟨h1, h2⟩ | ⟨g, cap, cur, h1, h2⟩
  · obtain rfl : l = [] := List.length_eq_zero_iff.1 h2
    subst h1
    exact Lib.run_convert_nil_bytes x _ _ 5 0 Tryz.underlying25 Tryz.underlying5 Tryz.underlying9
  · subst h1
    refine run_convert_bytes_back x _ _ 5 ⟨g, 0, none⟩ cap l Tryz.underlying25 Tryz.underlying5 Tryz.underlying9 (fun j hj => ?_)
    exact World.ownsRow.cells h (g := g) rfl j _ (by simp [bc, List.getElem?_eq_getElem hj])
def rnS (n : Int) : List UInt8 := (rn n).getD []
end Go.Proofs.YtjlpkgipdkjfhaaGreatDoor
namespace Go.Proofs.YtjlpkgipdkjfhaaGreatDoor.En
structure Stp (l : List UInt8) (p r k : Nat) : Prop where
  run : ∃ t, l.drop p = t ++ l.drop (p + k) ∧ t.length = k ∧ ((∃ c, t = [c] ∧ c.toNat = r ∧ r < 128) ∨ (128 ≤ r ∧ ∀ c ∈ t, 128 ≤ c.toNat))
  pos : 1 ≤ k
  le : p + k ≤ l.length
  big : r ≤ 1114111
theorem drop_at {l : List UInt8} {p : Nat} (h : p < l.length) : l.drop p = l.getD p 0 :: l.drop (p + 1) := by
  rw [List.drop_eq_getElem_cons h]; simp [List.getD, h]
theorem take_run {l t r : List UInt8} {p : Nat} (hp : p ≤ l.length) (h : l.drop p = t ++ r) : l.take (p + t.length) = l.take p ++ t := by
  rw [List.take_add, h]; simp
theorem stp_of (l : List UInt8) (p : Nat) (h : p < l.length) : Stp l p (Utf8.decode ⟨l.toArray⟩ p).1 (Utf8.decode ⟨l.toArray⟩ p).2 := by
  rw [Lib.decode_N]
  show Stp l p (Lib.decodeN (l.length - p) (l.getD p 0).toNat (l.getD (p + 1) 0).toNat (l.getD (p + 2) 0).toNat (l.getD (p + 3) 0).toNat).1 (Lib.decodeN (l.length - p) (l.getD p 0).toNat (l.getD (p + 1) 0).toNat (l.getD (p + 2) 0).toNat (l.getD (p + 3) 0).toNat).2
  have d0 := drop_at h
  have x0 := (l.getD p 0).toNat_lt
  have x1 := (l.getD (p + 1) 0).toNat_lt
  have x2 := (l.getD (p + 2) 0).toNat_lt
  have x3 := (l.getD (p + 3) 0).toNat_lt
  have one : ∀ r : Nat, 128 ≤ r → r ≤ 1114111 → 128 ≤ (l.getD p 0).toNat → Stp l p r 1 := fun r h1 h2 h3 =>
    ⟨⟨[l.getD p 0], d0, rfl, Or.inr ⟨h1, fun c hc => by simp only [List.mem_singleton] at hc; subst hc; exact h3⟩⟩, Nat.le_refl _, by omega, h2⟩
  unfold Lib.decodeN
  split
  · exact ⟨⟨[l.getD p 0], d0, rfl, Or.inl ⟨_, rfl, rfl, by assumption⟩⟩, Nat.le_refl _, by simp only; omega, by simp only; omega⟩
  rename_i hh
  split
  · rename_i q
    split
    · have d1 := drop_at (show p + 1 < l.length by omega)
      refine ⟨⟨[l.getD p 0, l.getD (p + 1) 0], by rw [d0, d1]; rfl, rfl, Or.inr ⟨by simp only; omega, fun c hc => ?_⟩⟩, by simp only; omega, by simp only; omega, by simp only; omega⟩
      simp only [List.mem_cons, List.not_mem_nil, or_false] at hc
      rcases hc with rfl | rfl <;> omega
    · exact one _ (by omega) (by omega) (by omega)
  split
  · rename_i q
    split
    · have d1 := drop_at (show p + 1 < l.length by omega)
      have d2 := drop_at (show p + 1 + 1 < l.length by omega)
      refine ⟨⟨[l.getD p 0, l.getD (p + 1) 0, l.getD (p + 2) 0], by rw [d0, d1, d2]; rfl, rfl, Or.inr ⟨by simp only; omega, fun c hc => ?_⟩⟩, by simp only; omega, by simp only; omega, by simp only; omega⟩
      simp only [List.mem_cons, List.not_mem_nil, or_false] at hc
      rcases hc with rfl | rfl | rfl <;> omega
    · exact one _ (by omega) (by omega) (by omega)
  split
  · rename_i q
    split
    · have d1 := drop_at (show p + 1 < l.length by omega)
      have d2 := drop_at (show p + 1 + 1 < l.length by omega)
      have d3 := drop_at (show p + 1 + 1 + 1 < l.length by omega)
      refine ⟨⟨[l.getD p 0, l.getD (p + 1) 0, l.getD (p + 2) 0, l.getD (p + 3) 0], by rw [d0, d1, d2, d3]; rfl, rfl, Or.inr ⟨by simp only; omega, fun c hc => ?_⟩⟩, by simp only; omega, by simp only; omega, by simp only; omega⟩
      simp only [List.mem_cons, List.not_mem_nil, or_false] at hc
      rcases hc with rfl | rfl | rfl | rfl <;> omega
    · exact one _ (by omega) (by omega) (by omega)
  · exact one _ (by omega) (by omega) (by omega)
theorem u8n {c : UInt8} {n : Nat} (hn : n < 256) : c.toNat = n ↔ c = UInt8.ofNat n := by
  constructor
  · intro h; apply UInt8.toNat_inj.1; rw [h]; simp; omega
  · intro h; rw [h]; simp; omega
theorem Stp.cases {l : List UInt8} {p r k : Nat} (h : Stp l p r k) :
    (∃ c : UInt8, c.toNat = r ∧ r < 128 ∧ k = 1 ∧ l.drop p = c :: l.drop (p + 1) ∧ l.take (p + 1) = l.take p ++ [c])
    ∨ (128 ≤ r ∧ ∃ t, l.drop p = t ++ l.drop (p + k) ∧ l.take (p + k) = l.take p ++ t ∧ t.length = k ∧ ∀ c ∈ t, 128 ≤ c.toNat) := by
  obtain ⟨t, h1, h2, h3⟩ := h.run
  have hp : p ≤ l.length := by have := h.le; omega
  have h4 := take_run hp h1
  rw [h2] at h4
  rcases h3 with ⟨c, rfl, hc, hr⟩ | ⟨hr, ht⟩
  · obtain rfl : k = 1 := by rw [← h2]; rfl
    exact Or.inl ⟨c, hc, hr, rfl, h1, h4⟩
  · exact Or.inr ⟨hr, t, h1, h4, h2, ht⟩
def bo (l : List UInt8) : Option (List UInt8) := bdF 11 [] l
theorem bdF_pass : ∀ (t : List UInt8) (n : Nat) (acc r : List UInt8), (∀ c ∈ t, c ≠ 38 ∧ c ≠ 59) → bdF n acc (t ++ r) = bdF (n - t.length) (acc ++ t) r
  | [], n, acc, r, _ => by simp
  | c :: t, 0, acc, r, _ => by simp [bdF]
  | c :: t, n + 1, acc, r, h => by
    obtain ⟨h1, h2⟩ := h c (by simp)
    rw [List.cons_append, bdF, if_neg h1, if_neg h2, bdF_pass t n _ r (fun x hx => h x (List.mem_cons_of_mem _ hx))]
    simp
def BoI (l : List UInt8) (p : Nat) : Prop := p ≤ l.length ∧ bo l = bdF (11 - p) (l.take p) (l.drop p)
theorem BoI.start (l : List UInt8) : BoI l 0 := ⟨Nat.zero_le _, rfl⟩
theorem BoI.over {l : List UInt8} {p : Nat} (h : BoI l p) (hp : 10 < p) : bo l = none := by
  rw [h.2, show 11 - p = 0 by omega]; rfl
theorem BoI.done {l : List UInt8} {p : Nat} (h : BoI l p) (hp : ¬ p < l.length) : bo l = none := by
  rw [h.2, List.drop_eq_nil_of_le (by omega)]; cases 11 - p <;> rfl
theorem BoI.amp {l : List UInt8} {p r k : Nat} (h : BoI l p) (s : Stp l p r k) (hr : r = 38) : bo l = none := by
  rcases s.cases with ⟨c, h1, h2, h3, h4, _⟩ | ⟨h1, _⟩
  · obtain rfl : c = 38 := (u8n (n := 38) (by decide)).1 (h1.trans hr)
    rw [h.2, h4]; cases 11 - p with
    | zero => rfl
    | succ n => rw [bdF, if_pos rfl]
  · omega
theorem BoI.semi {l : List UInt8} {p r k : Nat} (h : BoI l p) (s : Stp l p r k) (hp : p ≤ 10) (hr : r = 59) : bo l = if p = 0 then none else some (l.take p) := by
  rcases s.cases with ⟨c, h1, h2, h3, h4, _⟩ | ⟨h1, _⟩
  · obtain rfl : c = 59 := (u8n (n := 59) (by decide)).1 (h1.trans hr)
    rw [h.2, h4, show 11 - p = 10 - p + 1 by omega, bdF, if_neg (by decide), if_pos rfl]
    have hl := h.1
    by_cases q : p = 0
    · subst q; rfl
    · rw [if_neg q, if_neg (fun e => q (by have := congrArg List.length e; rw [List.length_take] at this; simp only [List.length_nil] at this; have := s.pos; have := s.le; omega))]
  · omega
theorem BoI.next {l : List UInt8} {p r k : Nat} (h : BoI l p) (s : Stp l p r k) (h1 : r ≠ 38) (h2 : r ≠ 59) : BoI l (p + k) := by
  have key : ∀ t : List UInt8, l.drop p = t ++ l.drop (p + k) → l.take (p + k) = l.take p ++ t → t.length = k → (∀ c ∈ t, c ≠ 38 ∧ c ≠ 59) → BoI l (p + k) := fun t e1 e2 e3 e4 =>
    ⟨s.le, by rw [h.2, e1, bdF_pass t _ _ _ e4, e2, e3, Nat.sub_sub]⟩
  rcases s.cases with ⟨c, q1, q2, rfl, q4, q5⟩ | ⟨_, t, q1, q2, q3, q4⟩
  · refine key [c] q4 q5 rfl (fun x hx => ?_)
    simp only [List.mem_singleton] at hx
    subst hx
    exact ⟨fun e => h1 (by rw [← q1, e]; rfl), fun e => h2 (by rw [← q1, e]; rfl)⟩
  · refine key t q1 q2 q3 (fun x hx => ?_)
    have := q4 x hx
    exact ⟨fun e => by rw [e] at this; exact absurd this (by decide), fun e => by rw [e] at this; exact absurd this (by decide)⟩
theorem bo_len {l b : List UInt8} (h : bo l = some b) : b.length ≤ 10 ∧ b ≠ [] := by
  have key : ∀ (n : Nat) (acc r b : List UInt8), bdF n acc r = some b → b.length ≤ acc.length + (n - 1) ∧ b ≠ [] := by
    intro n
    induction n with
    | zero => intro acc r b h; cases h
    | succ n ih =>
      intro acc r b h
      cases r with
      | nil => cases h
      | cons c r =>
        rw [bdF] at h
        by_cases q1 : c = 38
        · rw [if_pos q1] at h; cases h
        rw [if_neg q1] at h
        by_cases q2 : c = 59
        · rw [if_pos q2] at h
          by_cases q3 : acc = []
          · rw [if_pos q3] at h; cases h
          · rw [if_neg q3] at h; cases h; exact ⟨by omega, q3⟩
        · rw [if_neg q2] at h
          have := ih _ _ _ h
          cases n with
          | zero => cases h
          | succ n => simp at this ⊢; exact ⟨by omega, this.2⟩
  have := key _ _ _ _ h
  simpa using this
theorem bdF_shape : ∀ (n : Nat) (acc r b : List UInt8), bdF n acc r = some b → ∃ d r', r = d ++ 59 :: r' ∧ b = acc ++ d
  | 0, _, _, _, h => by cases h
  | n + 1, _, [], _, h => by cases h
  | n + 1, acc, c :: r, b, h => by
    rw [bdF] at h
    by_cases q1 : c = 38
    · rw [if_pos q1] at h; cases h
    rw [if_neg q1] at h
    by_cases q2 : c = 59
    · rw [if_pos q2] at h
      by_cases q3 : acc = []
      · rw [if_pos q3] at h; cases h
      · rw [if_neg q3] at h; cases h; exact ⟨[], r, by rw [q2]; rfl, by simp⟩
    · rw [if_neg q2] at h
      obtain ⟨d, r', e1, e2⟩ := bdF_shape n _ r b h
      exact ⟨c :: d, r', by rw [e1]; rfl, by rw [e2]; simp⟩
theorem dg_lt {c : UInt8} {base : Int} (h : dg c < base) (hb : base ≤ 16) : c.toNat < 128 ∧ c ≠ 38 := by
  unfold dg at h
  have a : c = 38 → c.toNat = 38 := fun e => by rw [e]; rfl
  split at h
  · exact ⟨by omega, fun e => by have := a e; omega⟩
  · split at h
    · exact ⟨by omega, fun e => by have := a e; omega⟩
    · split at h
      · exact ⟨by omega, fun e => by have := a e; omega⟩
      · omega
theorem numF_plain {base : Int} (hb : base ≤ 16) : ∀ (d : List UInt8) (acc n : Int), numF base acc d = some n → ∀ c ∈ d, c.toNat < 128 ∧ c ≠ 38
  | [], _, _, _, _, hc => by cases hc
  | a :: d, acc, n, h, c, hc => by
    rw [numF] at h
    by_cases q : dg a < base
    · rw [if_pos q] at h
      rcases List.mem_cons.1 hc with rfl | hc
      · exact dg_lt q hb
      · exact numF_plain hb d _ n h c hc
    · rw [if_neg q] at h; cases h
theorem num_plain {base : Int} (hb : base ≤ 16) {d : List UInt8} {n : Int} (h : num base d = some n) : ∀ c ∈ d, c.toNat < 128 ∧ c ≠ 38 := by
  unfold num at h
  by_cases q : d = []
  · rw [if_pos q] at h; cases h
  · rw [if_neg q] at h; exact numF_plain hb d _ n h
theorem sg_plain {b x : List UInt8} (h : sg b = some x) : ∀ c ∈ b, c.toNat < 128 ∧ c ≠ 38 := by
  unfold sg at h
  by_cases e1 : b = [97, 109, 112]
  · rw [e1]; decide
  rw [if_neg e1] at h
  by_cases e2 : b = [108, 116]
  · rw [e2]; decide
  rw [if_neg e2] at h
  by_cases e3 : b = [103, 116]
  · rw [e3]; decide
  rw [if_neg e3] at h
  by_cases e4 : b = [113, 117, 111, 116]
  · rw [e4]; decide
  rw [if_neg e4] at h
  by_cases e5 : b = [97, 112, 111, 115]
  · rw [e5]; decide
  rw [if_neg e5] at h
  split at h
  · rename_i r
    cases hn : num 16 r with
    | none => rw [hn] at h; cases h
    | some m =>
      have := num_plain (by omega) hn
      intro c hc
      rcases List.mem_cons.1 hc with rfl | hc
      · decide
      rcases List.mem_cons.1 hc with rfl | hc
      · decide
      · exact this c hc
  · rename_i r _
    cases hn : num 10 r with
    | none => rw [hn] at h; cases h
    | some m =>
      have := num_plain (by omega) hn
      intro c hc
      rcases List.mem_cons.1 hc with rfl | hc
      · decide
      · exact this c hc
  · cases h
structure GoI (l acc : List UInt8) (W p : Nat) (al : Bool) : Prop where
  wl : W ≤ l.length
  pl : p ≤ l.length
  short : acc.length ≤ W
  st : (W ≤ p ∧ gone l = (acc ++ (l.take p).drop W ++ (gone (l.drop p)).1, al && (gone (l.drop p)).2))
    ∨ (p < W ∧ (∃ t, l.drop p = t ++ l.drop W ∧ t.length = W - p ∧ ∀ c ∈ t, c.toNat < 128 ∧ c ≠ 38) ∧ gone l = (acc ++ (gone (l.drop W)).1, al && (gone (l.drop W)).2))
theorem GoI.start (l : List UInt8) : GoI l [] 0 0 true := ⟨Nat.zero_le _, Nat.zero_le _, Nat.le_refl _, Or.inl ⟨Nat.le_refl _, by simp⟩⟩
theorem GoI.done {l acc : List UInt8} {W p : Nat} {al : Bool} (h : GoI l acc W p al) (hp : ¬ p < l.length) : gone l = (acc ++ l.drop W, al) := by
  have h1 := h.pl
  have h2 := h.wl
  rcases h.st with ⟨h3, h4⟩ | ⟨h3, _⟩
  · rw [h4, List.drop_eq_nil_of_le (show l.length ≤ p by omega), List.take_of_length_le (show l.length ≤ p by omega), gone_nil]; simp
  · omega
theorem GoI.next {l acc : List UInt8} {W p r k : Nat} {al : Bool} (h : GoI l acc W p al) (s : Stp l p r k) (hr : r ≠ 38) : GoI l acc W (p + k) al := by
  refine ⟨h.wl, s.le, h.short, ?_⟩
  rcases h.st with ⟨h3, h4⟩ | ⟨h3, ⟨t, h4, h5, h6⟩, h7⟩
  · have key : ∀ t : List UInt8, l.drop p = t ++ l.drop (p + k) → l.take (p + k) = l.take p ++ t → (∀ c ∈ t, c ≠ 38) → gone l = (acc ++ (l.take (p + k)).drop W ++ (gone (l.drop (p + k))).1, al && (gone (l.drop (p + k))).2) := fun t e1 e2 e3 => by
      have g : gone t = (t, true) := gone_plain (fun hm => e3 _ hm rfl)
      have hp := h.pl
      rw [h4, e1, gone_app _ (by rw [g]), g, e2, List.drop_append_of_le_length (by rw [List.length_take]; omega)]
      simp
    left
    refine ⟨by omega, ?_⟩
    rcases s.cases with ⟨c, q1, q2, rfl, q4, q5⟩ | ⟨_, t, q1, q2, q3, q4⟩
    · refine key [c] q4 q5 (fun x hx => ?_)
      simp only [List.mem_singleton] at hx
      subst hx
      exact fun e => hr (by rw [← q1, e]; rfl)
    · refine key t q1 q2 (fun x hx => ?_)
      have := q4 x hx
      exact fun e => by rw [e] at this; exact absurd this (by decide)
  · have hW := h.wl
    cases t with
    | nil => simp at h5; omega
    | cons c t =>
      have hk : k = 1 ∧ l.drop (p + 1) = t ++ l.drop W := by
        rcases s.cases with ⟨c', q1, q2, q3, q4, q5⟩ | ⟨_, t', q1, q2, q3, q4⟩
        · rw [q4] at h4
          simp only [List.cons_append, List.cons.injEq] at h4
          exact ⟨q3, h4.2⟩
        · have hk := s.pos
          cases t' with
          | nil => simp at q3; omega
          | cons c' t' =>
            rw [q1] at h4
            simp only [List.cons_append, List.cons.injEq] at h4
            have a := q4 c' (by simp)
            have b := (h6 c (by simp)).1
            rw [h4.1] at a; omega
      obtain ⟨rfl, hd⟩ := hk
      simp only [List.length_cons] at h5
      by_cases q : p + 1 = W
      · left
        subst q
        exact ⟨Nat.le_refl _, by rw [h7]; simp⟩
      · exact Or.inr ⟨by omega, ⟨t, hd, by omega, fun x hx => h6 x (List.mem_cons_of_mem _ hx)⟩, h7⟩
theorem GoI.amp {l acc : List UInt8} {W p r k : Nat} {al : Bool} (h : GoI l acc W p al) (s : Stp l p r k) (hr : r = 38) : k = 1 ∧ W ≤ p ∧ l.drop p = 38 :: l.drop (p + 1) ∧ l.take (p + 1) = l.take p ++ [38] ∧ p + 1 ≤ l.length := by
  have hle := s.le
  rcases s.cases with ⟨c, q1, q2, rfl, q4, q5⟩ | ⟨h1, _⟩
  · obtain rfl : c = 38 := (u8n (n := 38) (by decide)).1 (q1.trans hr)
    refine ⟨rfl, ?_, q4, q5, hle⟩
    rcases h.st with ⟨h3, _⟩ | ⟨h3, ⟨t, h4, h5, h6⟩, _⟩
    · exact h3
    · cases t with
      | nil => simp at h5; omega
      | cons c t =>
        rw [q4] at h4
        simp only [List.cons_append, List.cons.injEq] at h4
        exact absurd h4.1.symm (h6 c (by simp)).2
  · omega
theorem GoI.stay {l acc : List UInt8} {W p r k : Nat} {al : Bool} (h : GoI l acc W p al) (s : Stp l p r k) (hr : r = 38) (he : en (l.drop (p + 1)) = none) : GoI l acc W (p + k) false := by
  obtain ⟨rfl, h1, h2, h3, h5⟩ := h.amp s hr
  refine ⟨h.wl, h5, h.short, Or.inl ⟨by omega, ?_⟩⟩
  have hp := h.pl
  rcases h.st with ⟨_, h4⟩ | ⟨h4, _⟩
  · rw [h4, h2, gone_cons, if_pos rfl, he, h3, List.drop_append_of_le_length (by rw [List.length_take]; omega)]
    simp
  · omega
theorem GoI.put {l acc b x : List UInt8} {W p r k : Nat} {al : Bool} (h : GoI l acc W p al) (s : Stp l p r k) (hr : r = 38) (hb : bo (l.drop (p + 1)) = some b) (hx : sg b = some x) :
    GoI l (acc ++ (l.take p).drop W ++ x) (p + 1 + b.length + 1) (p + k) al := by
  obtain ⟨rfl, h1, h2, h3, h5⟩ := h.amp s hr
  have hp := h.pl
  obtain ⟨d, r', e1, e2⟩ := bdF_shape _ _ _ _ hb
  rw [List.nil_append] at e2
  subst e2
  have hlen : p + 1 + b.length + 1 ≤ l.length := by
    have := congrArg List.length e1
    simp at this; omega
  have hd : l.drop (p + 1 + b.length + 1) = r' := by
    rw [Nat.add_assoc (p + 1), ← List.drop_drop, e1]; simp
  have hxl := sg_len hx
  have hpl := sg_plain hx
  refine ⟨hlen, h5, ?_, Or.inr ⟨by omega, ⟨b ++ [59], by rw [e1, hd]; simp, by simp; omega, fun c hc => ?_⟩, ?_⟩⟩
  · have := h.short
    simp; omega
  · rcases List.mem_append.1 hc with hc | hc
    · exact hpl c hc
    · simp only [List.mem_singleton] at hc
      subst hc; decide
  · have he : en (l.drop (p + 1)) = some (x, b.length + 1) := by
      unfold en
      rw [show bdF 11 [] (l.drop (p + 1)) = some b from hb]
      simp [hx]
    rcases h.st with ⟨_, h4⟩ | ⟨h4, _⟩
    · rw [h4, h2, gone_cons, if_pos rfl, he, hd]
      have : (l.drop (p + 1)).drop (b.length + 1) = r' := by rw [e1]; simp
      simp only [this]
      simp
    · omega
def entR (r : Nat) : List UInt8 := if r = 38 then [38, 97, 109, 112, 59] else if r = 60 then [38, 108, 116, 59] else if r = 62 then [38, 103, 116, 59] else if r = 34 then [38, 113, 117, 111, 116, 59] else []
theorem encC_of {c : UInt8} : encC c = if entR c.toNat = [] then [c] else entR c.toNat := by
  have key : ∀ n : Fin 256, encC (UInt8.ofNat n) = if entR (UInt8.ofNat n).toNat = [] then [UInt8.ofNat n] else entR (UInt8.ofNat n).toNat := by decide +kernel
  have := key ⟨c.toNat, c.toNat_lt⟩
  simpa using this
theorem entR_high {r : Nat} (h : 128 ≤ r) : entR r = [] := by unfold entR; rw [if_neg (by omega), if_neg (by omega), if_neg (by omega), if_neg (by omega)]
theorem enc_run : ∀ (t : List UInt8), (∀ c ∈ t, entR c.toNat = []) → enc t = t
  | [], _ => rfl
  | c :: t, h => by
    have e : enc (c :: t) = encC c ++ enc t := rfl
    rw [e, encC_of, if_pos (h c (by simp)), enc_run t (fun x hx => h x (List.mem_cons_of_mem _ hx))]; rfl
theorem enc_app (a b : List UInt8) : enc (a ++ b) = enc a ++ enc b := by unfold enc; rw [List.flatMap_append]
structure EnI (l acc : List UInt8) (W p : Nat) : Prop where
  wp : W ≤ p
  pl : p ≤ l.length
  short : acc.length ≤ 6 * W
  st : enc l = acc ++ (l.take p).drop W ++ enc (l.drop p)
theorem EnI.start (l : List UInt8) : EnI l [] 0 0 := ⟨Nat.le_refl _, Nat.zero_le _, Nat.le_refl _, by simp⟩
theorem EnI.done {l acc : List UInt8} {W p : Nat} (h : EnI l acc W p) (hp : ¬ p < l.length) : enc l = acc ++ l.drop W := by
  have h1 := h.pl
  rw [h.st, List.drop_eq_nil_of_le (show l.length ≤ p by omega), List.take_of_length_le (show l.length ≤ p by omega)]; simp [enc]
theorem EnI.next {l acc : List UInt8} {W p r k : Nat} (h : EnI l acc W p) (s : Stp l p r k) (hr : entR r = []) : EnI l acc W (p + k) := by
  have hp := h.pl
  have hw := h.wp
  have key : ∀ t : List UInt8, l.drop p = t ++ l.drop (p + k) → l.take (p + k) = l.take p ++ t → (∀ c ∈ t, entR c.toNat = []) → EnI l acc W (p + k) := fun t e1 e2 e3 =>
    ⟨by omega, s.le, h.short, by rw [h.st, e1, enc_app, enc_run t e3, e2, List.drop_append_of_le_length (by rw [List.length_take]; omega)]; simp⟩
  rcases s.cases with ⟨c, q1, q2, rfl, q4, q5⟩ | ⟨_, t, q1, q2, q3, q4⟩
  · refine key [c] q4 q5 (fun x hx => ?_)
    simp only [List.mem_singleton] at hx
    subst hx
    rw [q1]; exact hr
  · exact key t q1 q2 (fun x hx => entR_high (q4 x hx))
theorem entR_low {r : Nat} (h : entR r ≠ []) : r < 128 := by
  unfold entR at h
  by_cases q : r < 128
  · exact q
  · rw [if_neg (by omega), if_neg (by omega), if_neg (by omega), if_neg (by omega)] at h; exact absurd rfl h
theorem entR_len (r : Nat) : (entR r).length ≤ 6 := by unfold entR; split <;> (try split) <;> (try split) <;> (try split) <;> simp
theorem EnI.put {l acc : List UInt8} {W p r k : Nat} (h : EnI l acc W p) (s : Stp l p r k) (hr : entR r ≠ []) : k = 1 ∧ EnI l (acc ++ (l.take p).drop W ++ entR r) (p + 1) (p + 1) := by
  have hp := h.pl
  have hw := h.wp
  have hlow := entR_low hr
  have hle := s.le
  rcases s.cases with ⟨c, q1, q2, rfl, q4, q5⟩ | ⟨q, _⟩
  · refine ⟨rfl, Nat.le_refl _, hle, ?_, ?_⟩
    · have := h.short
      have := entR_len r
      simp; omega
    · have e : enc (c :: l.drop (p + 1)) = encC c ++ enc (l.drop (p + 1)) := rfl
      rw [h.st, q4, e, encC_of, q1, if_neg hr]
      simp
  · omega
def addW (acc w : List UInt8) : List UInt8 := if acc = [] then w else acc ++ 32 :: w
def wordsF : List UInt8 → List UInt8 → List (List UInt8)
  | cur, [] => if cur = [] then [] else [cur]
  | cur, c :: r => if spB c = true then (if cur = [] then wordsF [] r else cur :: wordsF [] r) else wordsF (cur ++ [c]) r
theorem addW_ne {acc w : List UInt8} (h : w ≠ []) : addW acc w ≠ [] := by unfold addW; split <;> simp_all
theorem addW_app (acc w x : List UInt8) (h : w ≠ []) : addW acc (w ++ x) = addW acc w ++ x := by unfold addW; split <;> simp
def some? (acc : List UInt8) : Bool := !acc.isEmpty
theorem words_tr : ∀ (l acc : List UInt8), (wordsF [] l).foldl addW acc = acc ++ trF (some? acc) (some? acc) l ∧ ∀ cur, cur ≠ [] → (wordsF cur l).foldl addW acc = addW acc cur ++ trF true false l
  | [], acc => ⟨by simp [wordsF, trF], fun cur h => by simp [wordsF, trF, h]⟩
  | c :: r, acc => by
    cases hc : spB c with
    | true =>
      refine ⟨?_, fun cur h => ?_⟩
      · rw [wordsF, if_pos hc, if_pos rfl, trF_sp hc]; exact (words_tr r acc).1
      · rw [wordsF, if_pos hc, if_neg h, trF_sp hc, List.foldl_cons, (words_tr r _).1]
        have : some? (addW acc cur) = true := by simp [some?, addW_ne h]
        rw [this]
    | false =>
      refine ⟨?_, fun cur h => ?_⟩
      · rw [wordsF, if_neg (by rw [hc]; decide), trF_no hc, List.nil_append, (words_tr r acc).2 [c] (by simp)]
        cases acc with
        | nil => simp [addW, some?]
        | cons a acc => simp [addW, some?]
      · rw [wordsF, if_neg (by rw [hc]; decide), trF_no hc, (words_tr r acc).2 (cur ++ [c]) (by simp), addW_app _ _ _ h]
        simp
def words (l : List UInt8) : List (List UInt8) := wordsF [] l
def jn (ws : List (List UInt8)) : List UInt8 := ws.foldl addW []
theorem tr_words (l : List UInt8) : tr l = jn (words l) := by
  have := (words_tr l []).1
  unfold jn words tr
  rw [this]; simp [some?]
theorem jn_snoc (ws : List (List UInt8)) (w : List UInt8) : jn (ws ++ [w]) = addW (jn ws) w := by unfold jn; rw [List.foldl_append]; rfl
structure WoI (l : List UInt8) (ws : List (List UInt8)) (p : Nat) (st : Int) : Prop where
  pl : p ≤ l.length
  few : ws.length ≤ p
  lo : -1 ≤ st
  cur : (st = -1 ∧ words l = ws ++ wordsF [] (l.drop p)) ∨ (0 ≤ st ∧ st.toNat < p ∧ words l = ws ++ wordsF ((l.take p).drop st.toNat) (l.drop p))
theorem WoI.start (l : List UInt8) : WoI l [] 0 (-1) := ⟨Nat.zero_le _, Nat.zero_le _, Int.le_refl _, Or.inl ⟨rfl, by simp [words]⟩⟩
def blankR (r : Nat) : Bool := r == 9 || r == 10 || r == 13 || r == 32
theorem blank_of (c : UInt8) : blankR c.toNat = spB c := rfl
theorem blank_high {r : Nat} (h : 128 ≤ r) : blankR r = false := by
  unfold blankR
  simp only [Bool.or_eq_false_iff, beq_eq_false_iff_ne]
  omega
theorem blank_low {r : Nat} (h : blankR r = true) : r < 128 := by
  by_cases q : r < 128
  · exact q
  · rw [blank_high (by omega)] at h; cases h
theorem wordsF_run : ∀ (t cur r : List UInt8), (∀ c ∈ t, spB c = false) → wordsF cur (t ++ r) = wordsF (cur ++ t) r
  | [], cur, r, _ => by simp
  | c :: t, cur, r, h => by
    rw [List.cons_append, wordsF, if_neg (by rw [h c (by simp)]; decide), wordsF_run t _ r (fun x hx => h x (List.mem_cons_of_mem _ hx))]
    simp
theorem WoI.on {l : List UInt8} {ws : List (List UInt8)} {p r k : Nat} {st : Int} (h : WoI l ws p st) (s : Stp l p r k) (hr : blankR r = false) : WoI l ws (p + k) (if st < 0 then p else st) := by
  have hp := h.pl
  have hk := s.pos
  have hf := h.few
  have key : ∀ t : List UInt8, l.drop p = t ++ l.drop (p + k) → l.take (p + k) = l.take p ++ t → (∀ c ∈ t, spB c = false) → WoI l ws (p + k) (if st < 0 then p else st) := fun t e1 e2 e3 => by
    rcases h.cur with ⟨h1, h2⟩ | ⟨h0, h1, h2⟩
    · rw [if_pos (by omega)]
      refine ⟨s.le, by omega, by omega, Or.inr ⟨by omega, by simp; omega, ?_⟩⟩
      rw [h2, e1, wordsF_run t _ _ e3, e2]
      have : (l.take p ++ t).drop (p : Int).toNat = t := by
        rw [List.drop_append]; simp [Nat.min_eq_left hp]
      rw [this]; rfl
    · rw [if_neg (by omega)]
      refine ⟨s.le, by omega, by omega, Or.inr ⟨h0, by omega, ?_⟩⟩
      rw [h2, e1, wordsF_run t _ _ e3, e2, List.drop_append_of_le_length (by rw [List.length_take]; omega)]
  rcases s.cases with ⟨c, q1, q2, rfl, q4, q5⟩ | ⟨_, t, q1, q2, q3, q4⟩
  · refine key [c] q4 q5 (fun x hx => ?_)
    simp only [List.mem_singleton] at hx
    subst hx
    rw [← blank_of, q1]; exact hr
  · exact key t q1 q2 (fun x hx => by rw [← blank_of]; exact blank_high (q4 x hx))
theorem WoI.gap {l : List UInt8} {ws : List (List UInt8)} {p r k : Nat} {st : Int} (h : WoI l ws p st) (s : Stp l p r k) (hr : blankR r = true) (hs : st < 0) : WoI l ws (p + k) st := by
  have hlow := blank_low hr
  have hf := h.few
  rcases s.cases with ⟨c, q1, q2, rfl, q4, q5⟩ | ⟨q, _⟩
  · refine ⟨s.le, by omega, h.lo, Or.inl ?_⟩
    rcases h.cur with ⟨h1, h2⟩ | ⟨h0, _⟩
    · refine ⟨h1, ?_⟩
      rw [h2, q4, wordsF, if_pos (by rw [← blank_of, q1]; exact hr), if_pos rfl]
    · omega
  · omega
theorem WoI.end_ {l : List UInt8} {ws : List (List UInt8)} {p r k : Nat} {st : Int} (h : WoI l ws p st) (s : Stp l p r k) (hr : blankR r = true) (hs : 0 ≤ st) : WoI l (ws ++ [(l.take p).drop st.toNat]) (p + k) (-1) := by
  have hlow := blank_low hr
  have hf := h.few
  have hp := h.pl
  rcases s.cases with ⟨c, q1, q2, rfl, q4, q5⟩ | ⟨q, _⟩
  · refine ⟨s.le, by simp; omega, by omega, Or.inl ⟨rfl, ?_⟩⟩
    rcases h.cur with ⟨h1, h2⟩ | ⟨h0, h1, h2⟩
    · omega
    · rw [h2, q4, wordsF, if_pos (by rw [← blank_of, q1]; exact hr), if_neg (fun e => by have := congrArg List.length e; simp only [List.length_take, List.length_drop, List.length_nil] at this; omega)]
      simp
  · omega
theorem WoI.last {l : List UInt8} {ws : List (List UInt8)} {p : Nat} {st : Int} (h : WoI l ws p st) (hp : ¬ p < l.length) (hs : 0 ≤ st) : words l = ws ++ [l.drop st.toNat] := by
  have h1 := h.pl
  rcases h.cur with ⟨_, h2⟩ | ⟨_, h3, h2⟩
  · omega
  · rw [h2, List.drop_eq_nil_of_le (show l.length ≤ p by omega), List.take_of_length_le (show l.length ≤ p by omega), wordsF, if_neg (fun e => by have := congrArg List.length e; simp only [List.length_drop, List.length_nil] at this; omega)]
theorem WoI.shut {l : List UInt8} {ws : List (List UInt8)} {p : Nat} {st : Int} (h : WoI l ws p st) (hp : ¬ p < l.length) (hs : st < 0) : words l = ws := by
  have h1 := h.pl
  rcases h.cur with ⟨_, h2⟩ | ⟨q, _⟩
  · rw [h2, List.drop_eq_nil_of_le (show l.length ≤ p by omega), wordsF, if_pos rfl, List.append_nil]
  · omega
theorem wordsF_all : ∀ (l cur : List UInt8), ∀ w ∈ wordsF cur l, w ≠ [] ∧ w.length ≤ cur.length + l.length
  | [], cur, w, hw => by
    rw [wordsF] at hw
    by_cases q : cur = []
    · rw [if_pos q] at hw; cases hw
    · rw [if_neg q] at hw
      simp only [List.mem_singleton] at hw
      subst hw; exact ⟨q, by simp⟩
  | c :: r, cur, w, hw => by
    rw [wordsF] at hw
    split at hw
    · split at hw
      · have := wordsF_all r [] w hw
        exact ⟨this.1, by have := this.2; simp only [List.length_nil, List.length_cons] at this ⊢; omega⟩
      · rename_i q
        rcases List.mem_cons.1 hw with rfl | hw
        · exact ⟨q, Nat.le_add_right _ _⟩
        · have := wordsF_all r [] w hw
          exact ⟨this.1, by have := this.2; simp only [List.length_nil, List.length_cons] at this ⊢; omega⟩
    · have := wordsF_all r _ w hw
      exact ⟨this.1, by have := this.2; simp only [List.length_nil, List.length_cons, List.length_append] at this ⊢; omega⟩
end Go.Proofs.YtjlpkgipdkjfhaaGreatDoor.En
namespace Go.Proofs.YtjlpkgipdkjfhaaGreatDoor
open Go.ChangeShapes Go.WideShapes Go.ChangeAt Go.RowKit
theorem ext_of (l : List UInt8) (a b : Nat) : (ByteArray.mk l.toArray).extract a b = ⟨((l.take b).drop a).toArray⟩ := by
  apply ByteArray.ext
  rw [ByteArray.data_extract]
  simp [List.drop_take]
theorem cut_both (l : List UInt8) (a b : Nat) (h1 : a ≤ b) (h2 : b ≤ l.length) (W : World) :
    (Instr.slice 9 (.string ⟨l.toArray⟩) (some (.int .i64 a)) (some (.int .i64 b)) none).run Tryz.prog W = .ok (.string ⟨((l.take b).drop a).toArray⟩) W := by
  rw [run_slice_string W 9 _ .i64 .i64 _ _ Tryz.underlying9 (by omega) (by omega) (by show (b : Int) ≤ l.length; omega)]
  rw [show (a : Int).toNat = a by omega, show (b : Int).toNat = b by omega, ext_of]
theorem cut_from (l : List UInt8) (x : Int) (a : Nat) (hx : x = a) (h1 : a ≤ l.length) (W : World) :
    (Instr.slice 9 (.string ⟨l.toArray⟩) (some (.int .i64 x)) none none).run Tryz.prog W = .ok (.string ⟨(l.drop a).toArray⟩) W := by
  subst hx
  have hs : (ByteArray.mk l.toArray).size = l.length := List.size_toArray
  rw [run_slice_string_l W 9 _ Tryz.underlying9 .i64 _ (by omega) (by rw [hs]; omega), hs]
  rw [show (a : Int).toNat = a by omega, ext_of, List.take_length]
theorem cut_to (l : List UInt8) (b : Nat) (h1 : b ≤ l.length) (W : World) :
    (Instr.slice 9 (.string ⟨l.toArray⟩) none (some (.int .i64 b)) none).run Tryz.prog W = .ok (.string ⟨(l.take b).toArray⟩) W := by
  have hs : (ByteArray.mk l.toArray).size = l.length := List.size_toArray
  rw [run_slice_string_h W 9 _ Tryz.underlying9 .i64 _ (by omega) (by rw [hs]; omega)]
  rw [show (b : Int).toNat = b by omega, ext_of, List.drop_zero]
end Go.Proofs.YtjlpkgipdkjfhaaGreatDoor
namespace Go.Proofs.YtjlpkgipdkjfhaaGreatDoor
open Go.ChangeShapes Go.WideShapes Go.ChangeAt Go.RowKit
open En
theorem kept_it {w x : World} (h : Below w.heap.size w x) (s : ByteArray) (p : Nat) : Below w.heap.size w (x.iterAt w.heap.size s p) := Lib.below_iterAt h (Nat.le_refl _) s p
theorem utf_enc {n : Int} (h : okN n = true) : Utf8.encode n = ⟨(utf n).toArray⟩ := by
  unfold okN at h
  simp only [decide_eq_true_eq] at h
  have hv : Utf8.valid n = true := by unfold Utf8.valid; simp; omega
  unfold Utf8.encode utf by8
  simp only [hv, if_true]
  obtain ⟨m, rfl⟩ : ∃ m : Nat, n = m := ⟨n.toNat, by omega⟩
  simp only [Int.toNat_natCast]
  by_cases h1 : m < 128
  · rw [if_pos h1, if_pos (show (m : Int) < 128 by omega)]
  rw [if_neg h1, if_neg (show ¬ (m : Int) < 128 by omega)]
  by_cases h2 : m < 2048
  · rw [if_pos h2, if_pos (show (m : Int) < 2048 by omega)]
    congr
  rw [if_neg h2, if_neg (show ¬ (m : Int) < 2048 by omega)]
  by_cases h3 : m < 65536
  · rw [if_pos h3, if_pos (show (m : Int) < 65536 by omega)]
    congr
  · rw [if_neg h3, if_neg (show ¬ (m : Int) < 65536 by omega)]
    congr
set_option maxRecDepth 100000 in
set_option maxHeartbeats 2000000 in
theorem isSign_any (n : Int) (w : World) : Calls Tryz.prog 286 #[.int .i64 n] w fun e w' => e = .returned (.bool (okN n)) ∧ w = w' := by
  rcases (show n < 9 ∨ n = 9 ∨ n = 10 ∨ (11 ≤ n ∧ n ≤ 12) ∨ n = 13 ∨ (14 ≤ n ∧ n ≤ 31) ∨ (32 ≤ n ∧ n ≤ 55295) ∨ (55296 ≤ n ∧ n ≤ 57343) ∨ (57344 ≤ n ∧ n ≤ 65533) ∨ (65534 ≤ n ∧ n ≤ 65535) ∨ (65536 ≤ n ∧ n ≤ 1114111) ∨ 1114112 ≤ n by omega) with h | h | h | h | h | h | h | h | h | h | h | h
  · have HK := Lib.hid (show okN n = false by unfold okN; simp; omega)
    have b0 : (n == 9) = false := by simp; omega
    have b1 : (n == 10) = false := by simp; omega
    have b2 : (n == 13) = false := by simp; omega
    have c0 : decide (32 ≤ n) = false := by simp; omega
    have c1 : decide (57344 ≤ n) = false := by simp; omega
    have c2 : decide (65536 ≤ n) = false := by simp; omega
    have c3 : decide (n ≤ 55295) = true := by simp; omega
    have c4 : decide (n ≤ 65533) = true := by simp; omega
    have c5 : decide (n ≤ 1114111) = true := by simp; omega
    clear h
    go_enter Tryz.func286, Tryz.ntmps286
    go_wp2
    go_ret
    exact ⟨by rw [HK.out]; rfl, rfl⟩
  · subst h
    go_enter Tryz.func286, Tryz.ntmps286
    go_wp2
    go_ret
    exact ⟨rfl, rfl⟩
  · subst h
    go_enter Tryz.func286, Tryz.ntmps286
    go_wp2
    go_ret
    exact ⟨rfl, rfl⟩
  · have HK := Lib.hid (show okN n = false by unfold okN; simp; omega)
    have b0 : (n == 9) = false := by simp; omega
    have b1 : (n == 10) = false := by simp; omega
    have b2 : (n == 13) = false := by simp; omega
    have c0 : decide (32 ≤ n) = false := by simp; omega
    have c1 : decide (57344 ≤ n) = false := by simp; omega
    have c2 : decide (65536 ≤ n) = false := by simp; omega
    have c3 : decide (n ≤ 55295) = true := by simp; omega
    have c4 : decide (n ≤ 65533) = true := by simp; omega
    have c5 : decide (n ≤ 1114111) = true := by simp; omega
    clear h
    go_enter Tryz.func286, Tryz.ntmps286
    go_wp2
    go_ret
    exact ⟨by rw [HK.out]; rfl, rfl⟩
  · subst h
    go_enter Tryz.func286, Tryz.ntmps286
    go_wp2
    go_ret
    exact ⟨rfl, rfl⟩
  · have HK := Lib.hid (show okN n = false by unfold okN; simp; omega)
    have b0 : (n == 9) = false := by simp; omega
    have b1 : (n == 10) = false := by simp; omega
    have b2 : (n == 13) = false := by simp; omega
    have c0 : decide (32 ≤ n) = false := by simp; omega
    have c1 : decide (57344 ≤ n) = false := by simp; omega
    have c2 : decide (65536 ≤ n) = false := by simp; omega
    have c3 : decide (n ≤ 55295) = true := by simp; omega
    have c4 : decide (n ≤ 65533) = true := by simp; omega
    have c5 : decide (n ≤ 1114111) = true := by simp; omega
    clear h
    go_enter Tryz.func286, Tryz.ntmps286
    go_wp2
    go_ret
    exact ⟨by rw [HK.out]; rfl, rfl⟩
  · have HK := Lib.hid (show okN n = true by unfold okN; simp; omega)
    have b0 : (n == 9) = false := by simp; omega
    have b1 : (n == 10) = false := by simp; omega
    have b2 : (n == 13) = false := by simp; omega
    have c0 : decide (32 ≤ n) = true := by simp; omega
    have c1 : decide (57344 ≤ n) = false := by simp; omega
    have c2 : decide (65536 ≤ n) = false := by simp; omega
    have c3 : decide (n ≤ 55295) = true := by simp; omega
    have c4 : decide (n ≤ 65533) = true := by simp; omega
    have c5 : decide (n ≤ 1114111) = true := by simp; omega
    clear h
    go_enter Tryz.func286, Tryz.ntmps286
    go_wp2
    go_ret
    exact ⟨by rw [HK.out]; rfl, rfl⟩
  · have HK := Lib.hid (show okN n = false by unfold okN; simp; omega)
    have b0 : (n == 9) = false := by simp; omega
    have b1 : (n == 10) = false := by simp; omega
    have b2 : (n == 13) = false := by simp; omega
    have c0 : decide (32 ≤ n) = true := by simp; omega
    have c1 : decide (57344 ≤ n) = false := by simp; omega
    have c2 : decide (65536 ≤ n) = false := by simp; omega
    have c3 : decide (n ≤ 55295) = false := by simp; omega
    have c4 : decide (n ≤ 65533) = true := by simp; omega
    have c5 : decide (n ≤ 1114111) = true := by simp; omega
    clear h
    go_enter Tryz.func286, Tryz.ntmps286
    go_wp2
    go_ret
    exact ⟨by rw [HK.out]; rfl, rfl⟩
  · have HK := Lib.hid (show okN n = true by unfold okN; simp; omega)
    have b0 : (n == 9) = false := by simp; omega
    have b1 : (n == 10) = false := by simp; omega
    have b2 : (n == 13) = false := by simp; omega
    have c0 : decide (32 ≤ n) = true := by simp; omega
    have c1 : decide (57344 ≤ n) = true := by simp; omega
    have c2 : decide (65536 ≤ n) = false := by simp; omega
    have c3 : decide (n ≤ 55295) = false := by simp; omega
    have c4 : decide (n ≤ 65533) = true := by simp; omega
    have c5 : decide (n ≤ 1114111) = true := by simp; omega
    clear h
    go_enter Tryz.func286, Tryz.ntmps286
    go_wp2
    go_ret
    exact ⟨by rw [HK.out]; rfl, rfl⟩
  · have HK := Lib.hid (show okN n = false by unfold okN; simp; omega)
    have b0 : (n == 9) = false := by simp; omega
    have b1 : (n == 10) = false := by simp; omega
    have b2 : (n == 13) = false := by simp; omega
    have c0 : decide (32 ≤ n) = true := by simp; omega
    have c1 : decide (57344 ≤ n) = true := by simp; omega
    have c2 : decide (65536 ≤ n) = false := by simp; omega
    have c3 : decide (n ≤ 55295) = false := by simp; omega
    have c4 : decide (n ≤ 65533) = false := by simp; omega
    have c5 : decide (n ≤ 1114111) = true := by simp; omega
    clear h
    go_enter Tryz.func286, Tryz.ntmps286
    go_wp2
    go_ret
    exact ⟨by rw [HK.out]; rfl, rfl⟩
  · have HK := Lib.hid (show okN n = true by unfold okN; simp; omega)
    have b0 : (n == 9) = false := by simp; omega
    have b1 : (n == 10) = false := by simp; omega
    have b2 : (n == 13) = false := by simp; omega
    have c0 : decide (32 ≤ n) = true := by simp; omega
    have c1 : decide (57344 ≤ n) = true := by simp; omega
    have c2 : decide (65536 ≤ n) = true := by simp; omega
    have c3 : decide (n ≤ 55295) = false := by simp; omega
    have c4 : decide (n ≤ 65533) = false := by simp; omega
    have c5 : decide (n ≤ 1114111) = true := by simp; omega
    clear h
    go_enter Tryz.func286, Tryz.ntmps286
    go_wp2
    go_ret
    exact ⟨by rw [HK.out]; rfl, rfl⟩
  · have HK := Lib.hid (show okN n = false by unfold okN; simp; omega)
    have b0 : (n == 9) = false := by simp; omega
    have b1 : (n == 10) = false := by simp; omega
    have b2 : (n == 13) = false := by simp; omega
    have c0 : decide (32 ≤ n) = true := by simp; omega
    have c1 : decide (57344 ≤ n) = true := by simp; omega
    have c2 : decide (65536 ≤ n) = true := by simp; omega
    have c3 : decide (n ≤ 55295) = false := by simp; omega
    have c4 : decide (n ≤ 65533) = false := by simp; omega
    have c5 : decide (n ≤ 1114111) = false := by simp; omega
    clear h
    go_enter Tryz.func286, Tryz.ntmps286
    go_wp2
    go_ret
    exact ⟨by rw [HK.out]; rfl, rfl⟩
set_option maxRecDepth 100000 in
theorem rune_any (n : Int) (w : World) (h0 : -9223372036854775808 ≤ n) (h1 : n ≤ 9223372036854775807) : Calls Tryz.prog 280 #[.int .i64 n] w fun e w' => e = .returned (.tuple #[.string ⟨(rnS n).toArray⟩, .bool (okN n)]) ∧ w = w' := by
  cases hk : okN n with
  | false =>
    have HS := Lib.hid (show rnS n = [] by unfold rnS rn; rw [hk]; rfl)
    have HK := Lib.hid hk
    clear hk
    go_enter Tryz.func280, Tryz.ntmps280
    go_wp2_with fail
    refine (isSign_any n _).mono ?_
    rintro e w1 ⟨rfl, rfl⟩
    rw [HK.out]
    go_wp2
    go_ret2
    exact ⟨by rw [HS.out]; rfl, rfl⟩
  | true =>
    have hn : 0 ≤ n ∧ n ≤ 1114111 := by unfold okN at hk; simp only [decide_eq_true_eq] at hk; omega
    have HS := Lib.hid (show rnS n = utf n by unfold rnS rn; rw [hk]; rfl)
    have hcv : ∀ W : World, (convert 3 21 (.int .i64 n)).run Tryz.prog W = .ok (.int .i32 n) W := fun W => by
      rw [run_convert_int W _ _ .i64 n (by rw [Tryz.underlying3]; rfl) Tryz.underlying21, show Tryz.prog.intKind 21 = .i32 by kernel_rfl, IntKind.wrap_i32, show (n + 2147483648) % 4294967296 - 2147483648 = n by omega]
    have hcs : ∀ W : World, (convert 21 9 (.int .i32 n)).run Tryz.prog W = .ok (.string ⟨(utf n).toArray⟩) W := fun W => by
      rw [run_convert_int_string W _ _ .i32 n (by rw [Tryz.underlying21]; rfl) Tryz.underlying9, utf_enc hk]
    have HK := Lib.hid hk
    clear hk
    go_enter Tryz.func280, Tryz.ntmps280
    go_wp2_with fail
    refine (isSign_any n _).mono ?_
    rintro e w1 ⟨rfl, rfl⟩
    rw [HK.out]
    go_wp2
    go_ret2
    exact ⟨by rw [HS.out]; rfl, rfl⟩
theorem space_any (c : UInt8) (w : World) : Calls Tryz.prog 254 #[.int .u8 c.toNat] w fun e w' => e = .returned (.bool (spB c)) ∧ w = w' := by
  go_enter Tryz.func254, Tryz.ntmps254
  have h9 : ((c.toNat : Int) == 9) = (c.toNat == 9) := by rw [Bool.eq_iff_iff]; simp; omega
  have h10 : ((c.toNat : Int) == 10) = (c.toNat == 10) := by rw [Bool.eq_iff_iff]; simp; omega
  have h13 : ((c.toNat : Int) == 13) = (c.toNat == 13) := by rw [Bool.eq_iff_iff]; simp; omega
  have h32 : ((c.toNat : Int) == 32) = (c.toNat == 32) := by rw [Bool.eq_iff_iff]; simp; omega
  have HS := Lib.hid (show spB c = (((c.toNat : Int) == 9) || ((c.toNat : Int) == 10) || ((c.toNat : Int) == 13) || ((c.toNat : Int) == 32)) by rw [h9, h10, h13, h32]; rfl)
  clear h9 h10 h13 h32
  go_wp2
  all_goals
    go_ret
    exact ⟨eb_ret (by rw [HS.out]; try simp [*]), rfl⟩
theorem entityOf_any (r : Nat) (w : World) : Calls Tryz.prog 171 #[.int .i32 r] w fun e w' => e = .returned (.string ⟨(entR r).toArray⟩) ∧ w = w' := by
  rcases (show r = 38 ∨ r = 60 ∨ r = 62 ∨ r = 34 ∨ (r ≠ 38 ∧ r ≠ 60 ∧ r ≠ 62 ∧ r ≠ 34) by omega) with rfl | rfl | rfl | rfl | ⟨h1, h2, h3, h4⟩
  · go_enter Tryz.func171, Tryz.ntmps171
    go_wp2
    go_ret
    exact ⟨rfl, rfl⟩
  · go_enter Tryz.func171, Tryz.ntmps171
    go_wp2
    go_ret
    exact ⟨rfl, rfl⟩
  · go_enter Tryz.func171, Tryz.ntmps171
    go_wp2
    go_ret
    exact ⟨rfl, rfl⟩
  · go_enter Tryz.func171, Tryz.ntmps171
    go_wp2
    go_ret
    exact ⟨rfl, rfl⟩
  · have b1 : ((r : Int) == 38) = false := by simp; omega
    have b2 : ((r : Int) == 60) = false := by simp; omega
    have b3 : ((r : Int) == 62) = false := by simp; omega
    have b4 : ((r : Int) == 34) = false := by simp; omega
    have HS := Lib.hid (show entR r = [] by unfold entR; rw [if_neg h1, if_neg h2, if_neg h3, if_neg h4])
    clear h1 h2 h3 h4
    go_enter Tryz.func171, Tryz.ntmps171
    go_wp2
    go_ret
    exact ⟨by rw [HS.out]; rfl, rfl⟩
set_option maxRecDepth 100000 in
set_option maxHeartbeats 2000000 in
theorem bodyOf_any (l : List UInt8) (w : World) (hl : l.length ≤ 2000000) : Calls Tryz.prog 272 #[.string ⟨l.toArray⟩] w fun e w' => e = .returned (.tuple #[.string ⟨((bo l).getD []).toArray⟩, .bool (bo l).isSome]) ∧ Kept w w' := by
  have hsz : (ByteArray.mk l.toArray).size = l.length := List.size_toArray
  go_enter Tryz.func272, Tryz.ntmps272
  go_wp2
  go_loopw [] (fun wr => ∃ p, wr.heap[w.heap.size]? = some (.stringIter ⟨l.toArray⟩ p) ∧ Below w.heap.size w wr ∧ BoI l p) (fun wr => l.length - wr.iterPos w.heap.size)
  case atStart => exact ⟨0, World.iter_heap w _ 0, (Below.refl _ w).alloc (Nat.le_refl _) _, BoI.start l⟩
  case round =>
    obtain ⟨p, hit, hb, hI⟩ := hrel
    by_cases hp : p < l.length
    · have hnx : ∀ ty, (Instr.next (.pointer (some ⟨w.heap.size, 0, none⟩)) true ty).run Tryz.prog wr = _ := fun ty => Lib.run_next_any_at wr w.heap.size ⟨l.toArray⟩ p ty hit (by rw [hsz]; exact hp)
      have hs := stp_of l p hp
      generalize Utf8.decode ⟨l.toArray⟩ p = d at hnx hs
      obtain ⟨r, k⟩ := d
      simp only at hnx hs
      have hit2 := Lib.iterAt_heap wr w.heap.size ⟨l.toArray⟩ p (p + k) hit
      have hb2 := kept_it hb ⟨l.toArray⟩ (p + k)
      have hk2 := Kept.of_below hb2
      have hpl := hI.1
      generalize wr.iterAt w.heap.size ⟨l.toArray⟩ (p + k) = W2 at *
      by_cases h10 : 10 < p
      · have HN := Lib.hid (hI.over h10)
        have c1 : (10 : Int) < (p : Int) := by omega
        go_wp2
        go_ret2
        exact ⟨by rw [HN.out]; rfl, hk2⟩
      have c1 : ¬ (10 : Int) < (p : Int) := by omega
      by_cases h38 : r = 38
      · have HN := Lib.hid (hI.amp hs h38)
        subst h38
        go_wp2
        go_ret2
        exact ⟨by rw [HN.out]; rfl, hk2⟩
      have c2 : ((r : Int) == 38) = false := by simp; omega
      by_cases h59 : r = 59
      · have HN := Lib.hid (hI.semi hs (by omega) h59)
        subst h59
        have hc := cut_to l p hpl
        go_wp2
        go_ret2
        refine ⟨?_, hk2⟩
        rw [HN.out]
        by_cases h0 : p = 0
        · subst h0; rfl
        · rw [if_neg h0]; simp; omega
      · have c3 : ((r : Int) == 59) = false := by simp; omega
        have hN := Lib.hid (hI.next hs h38 h59)
        have hlt := hs.pos
        clear hI
        go_wp2
        go_roundw
        case rel => exact ⟨p + k, hit2, hb2, hN.out⟩
        case measure =>
          simp only [World.iterPos, hit2, hit]
          omega
    · have hnx : ∀ ty, (Instr.next (.pointer (some ⟨w.heap.size, 0, none⟩)) true ty).run Tryz.prog wr = _ := fun ty => Lib.run_next_end_at wr w.heap.size ⟨l.toArray⟩ p ty hit (by rw [hsz]; exact hp)
      have HN := Lib.hid (hI.done hp)
      have hk2 := Kept.of_below hb
      go_wp2
      go_ret2
      exact ⟨by rw [HN.out]; rfl, hk2⟩
end Go.Proofs.YtjlpkgipdkjfhaaGreatDoor
