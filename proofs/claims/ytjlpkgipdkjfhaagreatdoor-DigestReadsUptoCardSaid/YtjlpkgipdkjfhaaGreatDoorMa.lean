import Derived.RowKit
import Derived.KernelRfl
import Derived.Lib.Bytealg
import Derived.Lib.TrimByte
import Derived.Lib.Replace
import Derived.Lib.Strings
import Derived.Lib.IndexMore
set_option linter.unusedVariables false
set_option linter.unusedSimpArgs false
namespace Go.Proofs.YtjlpkgipdkjfhaaGreatDoor.Bk.Bx
abbrev B := List UInt8
def sgS : B := [65, 66, 67, 68, 69, 70, 71, 72, 73, 74, 75, 76, 77, 78, 79, 80, 81, 82, 83, 84, 85, 86, 87, 88, 89, 90, 97, 98, 99, 100, 101, 102, 103, 104, 105, 106, 107, 108, 109, 110, 111, 112, 113, 114, 115, 116, 117, 118, 119, 120, 121, 122, 48, 49, 50, 51, 52, 53, 54, 55, 56, 57, 43, 47]
def sg (n : Nat) : UInt8 := sgS.getD n 0
def num (a b c : UInt8) : Nat := 65536 * a.toNat + 256 * b.toNat + c.toNat
theorem num_lt (a b c : UInt8) : num a b c < 16777216 := by
  have := a.toNat_lt; have := b.toNat_lt; have := c.toNat_lt
  unfold num; omega
def raw : B → B
  | [] => []
  | [a] => [sg (num a 0 0 / 262144), sg (num a 0 0 / 4096 % 64), 61, 61]
  | [a, b] => [sg (num a b 0 / 262144), sg (num a b 0 / 4096 % 64), sg (num a b 0 / 64 % 64), 61]
  | a :: b :: c :: r => sg (num a b c / 262144) :: sg (num a b c / 4096 % 64) :: sg (num a b c / 64 % 64) :: sg (num a b c % 64) :: raw r
def rawT : B → B
  | [] => []
  | [a] => [sg (num a 0 0 / 262144), sg (num a 0 0 / 4096 % 64)]
  | [a, b] => [sg (num a b 0 / 262144), sg (num a b 0 / 4096 % 64), sg (num a b 0 / 64 % 64)]
  | a :: b :: c :: r => sg (num a b c / 262144) :: sg (num a b c / 4096 % 64) :: sg (num a b c / 64 % 64) :: sg (num a b c % 64) :: rawT r
def pad (b : B) : Nat := (3 - b.length % 3) % 3
theorem pad_more (a b c : UInt8) (r : B) : pad (a :: b :: c :: r) = pad r := by unfold pad; simp only [List.length_cons]; omega
theorem raw_eq : ∀ b : B, raw b = rawT b ++ List.replicate (pad b) 61
  | [] => rfl
  | [a] => rfl
  | [a, b] => rfl
  | a :: b :: c :: r => by
    rw [pad_more, raw, rawT, raw_eq r]; rfl
theorem sg_ne : ∀ n, n < 64 → sg n ≠ 61 ∧ sg n ≠ 13 ∧ sg n ≠ 10 := by decide +kernel
theorem rawT_ne : ∀ (b : B) (c : UInt8), c ∈ rawT b → ∃ n, n < 64 ∧ c = sg n
  | [], c, h => by cases h
  | [a], c, h => by
    have h0 := num_lt a 0 0
    simp only [rawT, List.mem_cons, List.not_mem_nil, or_false] at h
    rcases h with h | h
    · exact ⟨_, by omega, h⟩
    · exact ⟨_, by omega, h⟩
  | [a, b], c, h => by
    have h0 := num_lt a b 0
    simp only [rawT, List.mem_cons, List.not_mem_nil, or_false] at h
    rcases h with h | h | h
    · exact ⟨_, by omega, h⟩
    · exact ⟨_, by omega, h⟩
    · exact ⟨_, by omega, h⟩
  | x :: y :: z :: r, c, h => by
    have h0 := num_lt x y z
    simp only [rawT, List.mem_cons] at h
    rcases h with h | h | h | h | h
    · exact ⟨_, by omega, h⟩
    · exact ⟨_, by omega, h⟩
    · exact ⟨_, by omega, h⟩
    · exact ⟨_, by omega, h⟩
    · exact rawT_ne r c h
theorem raw_sign {b : B} {c : UInt8} (h : c ∈ raw b) : c = 61 ∨ ∃ n, n < 64 ∧ c = sg n := by
  rw [raw_eq, List.mem_append] at h
  rcases h with h | h
  · exact Or.inr (rawT_ne b c h)
  · exact Or.inl (List.eq_of_mem_replicate h)
theorem raw_ne {b : B} {c : UInt8} (h : c ∈ raw b) : c ≠ 13 ∧ c ≠ 10 := by
  rcases raw_sign h with rfl | ⟨n, hn, rfl⟩
  · exact ⟨by decide, by decide⟩
  · exact (sg_ne n hn).2
theorem raw_len : ∀ b : B, (raw b).length = (b.length + 2) / 3 * 4
  | [] => rfl
  | [a] => by simp [raw]
  | [a, b] => by simp [raw]
  | a :: b :: c :: r => by
    rw [raw]
    simp only [List.length_cons, raw_len r]
    omega
theorem raw_cut (b : B) : raw b = raw (b.take 3) ++ raw (b.drop 3) := by
  match b with
  | [] => rfl
  | [a] => rfl
  | [a, b] => rfl
  | a :: b :: c :: r => rfl
def dg (c : UInt8) : Int := Lib.indexByte sgS c
theorem dg_sg : ∀ n, n < 64 → dg (sg n) = (n : Int) := by decide +kernel
theorem dg_all : ∀ n, n < 256 → dg (UInt8.ofNat n) = -1 ∨ (0 ≤ dg (UInt8.ofNat n) ∧ dg (UInt8.ofNat n) < 64) := by decide +kernel
theorem dg_bd (c : UInt8) : dg c = -1 ∨ (0 ≤ dg c ∧ dg c < 64) := by
  have := dg_all c.toNat c.toNat_lt
  rwa [UInt8.ofNat_toNat] at this
def rd : Nat → Nat → B → Option B
  | _, _, [] => some []
  | n, k, c :: s => if dg c < 0 then none
    else if k = 0 then rd (dg c).toNat 6 s
    else (rd ((64 * n + (dg c).toNat) % 2 ^ (k - 2)) (k - 2) s).map (UInt8.ofNat ((64 * n + (dg c).toNat) / 2 ^ (k - 2)) :: ·)
theorem rd_0 {n : Nat} {d : Nat} (h : d < 64) (s : B) : rd n 0 (sg d :: s) = rd d 6 s := by
  rw [rd, dg_sg d h, if_neg (by omega), if_pos rfl]; rfl
theorem rd_k {n k : Nat} {d : Nat} (h : d < 64) (s : B) (hk : k ≠ 0) : rd n k (sg d :: s) = (rd ((64 * n + d) % 2 ^ (k - 2)) (k - 2) s).map (UInt8.ofNat ((64 * n + d) / 2 ^ (k - 2)) :: ·) := by
  rw [rd, dg_sg d h, if_neg (by omega), if_neg hk]; rfl
theorem ofNat_eq {a : UInt8} {n : Nat} (h : n = a.toNat) : UInt8.ofNat n = a := by rw [h, UInt8.ofNat_toNat]
theorem rd_rawT : ∀ (b : B) (n : Nat), rd n 0 (rawT b) = some b
  | [], n => by rw [rawT, rd]
  | [a], n => by
    have h0 := num_lt a 0 0
    have ha := a.toNat_lt
    rw [rawT, rd_0 (by omega), rd_k (by omega) _ (by decide), rd]
    simp only [Option.map_some, Option.some.injEq, List.cons.injEq, and_true]
    refine ofNat_eq ?_
    have : num a 0 0 = 65536 * a.toNat := by unfold num; simp
    simp only [Nat.reduceSub, Nat.reducePow]; omega
  | [a, b], n => by
    have h0 := num_lt a b 0
    have ha := a.toNat_lt
    have hb := b.toNat_lt
    have : num a b 0 = 65536 * a.toNat + 256 * b.toNat := by unfold num; simp
    rw [rawT, rd_0 (by omega), rd_k (by omega) _ (by decide), rd_k (by omega) _ (by decide), rd]
    simp only [Option.map_some, Option.some.injEq, List.cons.injEq, and_true, Nat.reduceSub, Nat.reducePow]
    exact ⟨ofNat_eq (by omega), ofNat_eq (by omega)⟩
  | a :: b :: c :: r, n => by
    have h0 := num_lt a b c
    have ha := a.toNat_lt
    have hb := b.toNat_lt
    have hc := c.toNat_lt
    have : num a b c = 65536 * a.toNat + 256 * b.toNat + c.toNat := rfl
    rw [rawT, rd_0 (by omega), rd_k (by omega) _ (by decide), rd_k (by omega) _ (by decide), rd_k (by omega) _ (by decide)]
    simp only [Nat.reduceSub, Nat.reducePow]
    rw [rd_rawT r]
    simp only [Option.map_some, Option.some.injEq, List.cons.injEq, and_true]
    exact ⟨ofNat_eq (by omega), ofNat_eq (by omega), ofNat_eq (by omega)⟩
theorem trim_app (x : B) (p : Nat) (h : ∀ c ∈ x, c ≠ 61) : Lib.trimRightB (x ++ List.replicate p 61) 61 = x := by
  have hl : (x ++ List.replicate p (61 : UInt8)).length = x.length + p := by simp
  rw [Lib.trimRightB_take _ 61 x.length (by omega) (fun j b hj hb => ?_) (fun b hb hx => ?_), List.take_left]
  · rw [List.getElem?_append_right hj] at hb
    exact List.eq_of_mem_replicate (List.mem_of_getElem? hb)
  · rw [List.getElem?_append_left (by omega)] at hx
    exact h b (List.mem_of_getElem? hx)
theorem trim_raw (b : B) : Lib.trimRightB (raw b) 61 = rawT b := by
  rw [raw_eq]
  exact trim_app _ _ fun c hc => by
    obtain ⟨n, hn, rfl⟩ := rawT_ne b c hc
    exact (sg_ne n hn).1
def cnd (s : B) : Option B := rd 0 0 (Lib.trimRightB s 61)
theorem cnd_raw (b : B) : cnd (raw b) = some b := by unfold cnd; rw [trim_raw, rd_rawT]
theorem raw_inj {a b : B} (h : raw a = raw b) : a = b := Option.some.inj ((cnd_raw a).symm.trans ((congrArg cnd h).trans (cnd_raw b)))
theorem rd_len : ∀ (s : B) (n k : Nat) (x : B), rd n k s = some x → x.length ≤ s.length
  | [], n, k, x, h => by rw [rd] at h; cases h; simp
  | c :: s, n, k, x, h => by
    rw [rd] at h
    split at h
    · cases h
    split at h
    · have := rd_len s _ _ _ h
      simp; omega
    · rw [Option.map_eq_some_iff] at h
      obtain ⟨y, hy, rfl⟩ := h
      have := rd_len s _ _ _ hy
      simp; omega
theorem trim_le (s : B) : (Lib.trimRightB s 61).length ≤ s.length := by
  unfold Lib.trimRightB
  have := (List.dropWhile_suffix (fun c : UInt8 => c == 61) (l := s.reverse)).length_le
  simpa using this
theorem cnd_len {s x : B} (h : cnd s = some x) : x.length ≤ s.length := Nat.le_trans (rd_len _ _ _ _ h) (trim_le s)
open Classical in
noncomputable def byt (s : B) : Option B := if h : ∃ b, raw b = s then some h.choose else none
theorem byt_some {s b : B} (h : raw b = s) : byt s = some b := by
  have hx : ∃ b, raw b = s := ⟨b, h⟩
  unfold byt
  rw [dif_pos hx]
  exact congrArg some (raw_inj (hx.choose_spec.trans h.symm))
theorem byt_none {s : B} (h : ∀ b, raw b ≠ s) : byt s = none := by
  unfold byt
  rw [dif_neg (fun ⟨b, hb⟩ => h b hb)]
theorem byt_back {s b : B} (h : byt s = some b) : raw b = s := by
  unfold byt at h
  split at h
  · rename_i hx
    cases h
    exact hx.choose_spec
  · cases h
theorem byt_raw (b : B) : byt (raw b) = some b := byt_some rfl
theorem byt_len {s b : B} (h : byt s = some b) : b.length ≤ s.length := by
  have := byt_back h
  have h2 := raw_len b
  rw [this] at h2
  omega
theorem byt_cnd {s : B} (h : cnd s = none) : byt s = none := byt_none fun b hb => by
  have := cnd_raw b
  rw [hb, h] at this; cases this
theorem byt_not {s x : B} (h : cnd s = some x) (hx : raw x ≠ s) : byt s = none := byt_none fun b hb => by
  have := cnd_raw b
  rw [hb, h] at this
  cases this
  exact hx hb
def nm (c : UInt8) : Nat := if dg c < 0 then 0 else (dg c).toNat
def num4 (w x y z : UInt8) : Nat := 64 * (64 * (64 * nm w + nm x) + nm y) + nm z
def ch : B → B
  | w :: x :: y :: z :: r => UInt8.ofNat (num4 w x y z / 65536) :: UInt8.ofNat (num4 w x y z / 256 % 256) :: UInt8.ofNat (num4 w x y z % 256) :: ch r
  | _ => []
def lin (s : B) : B := if h : s = [] then [] else s.take 76 ++ ([13, 10] ++ lin (s.drop 76))
termination_by s.length
decreasing_by
  have := List.length_pos_iff.2 h
  simp; omega
theorem lin_nil : lin [] = [] := by rw [lin]; simp
theorem lin_more {s : B} (h : s ≠ []) : lin s = s.take 76 ++ ([13, 10] ++ lin (s.drop 76)) := by rw [lin, dif_neg h]
def enc (b : B) : B := lin (raw b)
def dl : Nat → B → B
  | _, [] => []
  | k, c :: s => if k = 75 ∨ s = [] then c :: 13 :: 10 :: dl 0 s else c :: dl (k + 1) s
theorem lin_len : ∀ (n : Nat) (s : B), s.length ≤ n → (lin s).length = s.length + 2 * ((s.length + 75) / 76)
  | 0, s, hn => by
    obtain rfl : s = [] := List.length_eq_zero_iff.1 (by omega)
    rw [lin_nil]; rfl
  | n + 1, s, hn => by
    by_cases h : s = []
    · subst h; rw [lin_nil]; rfl
    have := List.length_pos_iff.2 h
    have hd : (s.drop 76).length = s.length - 76 := by simp
    rw [lin_more h]
    simp only [List.length_append, lin_len n _ (show (s.drop 76).length ≤ n by omega), hd, List.length_take, List.length_cons, List.length_nil]
    omega
theorem enc_len (b : B) : (enc b).length = (b.length + 2) / 3 * 4 + 2 * (((b.length + 2) / 3 * 4 + 75) / 76) := by
  unfold enc
  rw [lin_len _ _ (Nat.le_refl _), raw_len]
def flt (s : B) : B := s.filter fun c => decide (c ≠ 13) && decide (c ≠ 10)
theorem flt_app (a b : B) : flt (a ++ b) = flt a ++ flt b := by simp [flt]
theorem flt_all {s : B} (h : ∀ c ∈ s, c ≠ 13 ∧ c ≠ 10) : flt s = s := by
  unfold flt
  rw [List.filter_eq_self]
  intro c hc
  simp [h c hc]
theorem flt_lin : ∀ (n : Nat) (s : B), s.length ≤ n → (∀ c ∈ s, c ≠ 13 ∧ c ≠ 10) → flt (lin s) = s
  | 0, s, hn, _ => by
    obtain rfl : s = [] := List.length_eq_zero_iff.1 (by omega)
    rw [lin_nil]; rfl
  | n + 1, s, hn, hs => by
    by_cases h : s = []
    · subst h; rw [lin_nil]; rfl
    have := List.length_pos_iff.2 h
    rw [lin_more h, flt_app, flt_app, flt_all (fun c hc => hs c (List.mem_of_mem_take hc)), flt_lin n _ (by simp; omega) (fun c hc => hs c (List.mem_of_mem_drop hc)), show flt [13, 10] = [] from rfl, List.nil_append, List.take_append_drop]
theorem flt_enc (b : B) : flt (enc b) = raw b := flt_lin _ _ (Nat.le_refl _) fun _ h => raw_ne h
theorem pre_ne {c : UInt8} {s : B} (h : c ≠ 13) : List.isPrefixOf [13, 10] (c :: s) = false := by
  simp only [List.isPrefixOf]
  rw [show ((13 : UInt8) == c) = false from beq_eq_false_iff_ne.2 (Ne.symm h)]
  rfl
theorem idx_app : ∀ (t s : B), (∀ c ∈ t, c ≠ 13) → Lib.index (t ++ (13 :: 10 :: s)) [13, 10] = t.length
  | [], s, _ => by
    show Lib.index (13 :: 10 :: s) [13, 10] = 0
    unfold Lib.index
    rw [if_pos (by simp [List.isPrefixOf])]
  | c :: t, s, h => by
    show Lib.index (c :: (t ++ (13 :: 10 :: s))) [13, 10] = _
    unfold Lib.index
    rw [pre_ne (h c (by simp)), idx_app t s (fun d hd => h d (by simp [hd]))]
    have : ((t.length : Int) == -1) = false := by rw [beq_eq_false_iff_ne]; omega
    rw [this]
    simp
open Classical in
noncomputable def dec (s : B) : Option B := if h : ∃ b, enc b = s then some h.choose else none
theorem enc_inj {a b : B} (h : enc a = enc b) : a = b := raw_inj ((flt_enc a).symm.trans ((congrArg flt h).trans (flt_enc b)))
theorem dec_some {s b : B} (h : enc b = s) : dec s = some b := by
  have hx : ∃ b, enc b = s := ⟨b, h⟩
  unfold dec
  rw [dif_pos hx]
  exact congrArg some (enc_inj (hx.choose_spec.trans h.symm))
theorem dec_none {s : B} (h : ∀ b, enc b ≠ s) : dec s = none := by
  unfold dec
  rw [dif_neg (fun ⟨b, hb⟩ => h b hb)]
theorem dec_enc (b : B) : dec (enc b) = some b := dec_some rfl
end Go.Proofs.YtjlpkgipdkjfhaaGreatDoor.Bk.Bx
namespace Go.Proofs.YtjlpkgipdkjfhaaGreatDoor.Bk.Hd
open Bx
def splt (c : UInt8) : List UInt8 → List (List UInt8)
  | [] => [[]]
  | b :: r => if b = c then [] :: splt c r else match splt c r with | [] => [[b]] | p :: q => (b :: p) :: q
theorem splt_ne (c : UInt8) (l : List UInt8) : splt c l ≠ [] := by
  cases l with
  | nil => simp [splt]
  | cons b r => unfold splt; split
                · simp
                · split <;> simp
theorem splt_hit (c : UInt8) (r : List UInt8) : splt c (c :: r) = [] :: splt c r := by rw [splt, if_pos rfl]
theorem splt_miss {b c : UInt8} (h : b ≠ c) (r : List UInt8) : ∃ p q, splt c r = p :: q ∧ splt c (b :: r) = (b :: p) :: q := by
  cases hs : splt c r with
  | nil => exact absurd hs (splt_ne c r)
  | cons p q => exact ⟨p, q, rfl, by rw [splt, if_neg h, hs]⟩
theorem splt_app {c : UInt8} (p r : List UInt8) (h : c ∉ p) : splt c (p ++ c :: r) = p :: splt c r := by
  induction p with
  | nil => exact splt_hit c r
  | cons b p ih =>
    have hb : b ≠ c := fun e => h (by simp [e])
    have hp : c ∉ p := fun e => h (by simp [e])
    rw [List.cons_append, splt, if_neg hb, ih hp]
theorem splt_none {c : UInt8} (p : List UInt8) (h : c ∉ p) : splt c p = [p] := by
  induction p with
  | nil => rfl
  | cons b p ih =>
    have hb : b ≠ c := fun e => h (by simp [e])
    have hp : c ∉ p := fun e => h (by simp [e])
    rw [splt, if_neg hb, ih hp]
theorem cut_cases (c : UInt8) (l : List UInt8) : c ∉ l ∨ ∃ p r, l = p ++ c :: r ∧ c ∉ p := by
  induction l with
  | nil => simp
  | cons b l ih =>
    by_cases hb : b = c
    · exact Or.inr ⟨[], l, by simp [hb], by simp⟩
    · rcases ih with h | ⟨p, r, rfl, hp⟩
      · exact Or.inl (by simp; exact ⟨fun e => hb e.symm, h⟩)
      · exact Or.inr ⟨b :: p, r, by simp, by simp; exact ⟨fun e => hb e.symm, hp⟩⟩
theorem splt_mem {c : UInt8} : ∀ (l : List UInt8), ∀ t ∈ splt c l, c ∉ t ∧ t.length ≤ l.length
  | [], t, h => by simp [splt] at h; subst h; simp
  | b :: r, t, h => by
    by_cases hb : b = c
    · subst hb
      rw [splt_hit] at h
      rcases List.mem_cons.1 h with rfl | h
      · simp
      · have := splt_mem r t h; exact ⟨this.1, by simp; omega⟩
    · obtain ⟨p, q, h1, h2⟩ := splt_miss hb r
      rw [h2] at h
      rcases List.mem_cons.1 h with rfl | h
      · have := splt_mem r p (by rw [h1]; simp)
        exact ⟨by simp; exact ⟨fun e => hb e.symm, this.1⟩, by simp; omega⟩
      · have := splt_mem r t (by rw [h1]; simp [h])
        exact ⟨this.1, by simp; omega⟩
theorem splt_len (c : UInt8) : ∀ l : List UInt8, (splt c l).length ≤ l.length + 1
  | [] => by simp [splt]
  | b :: r => by
    have ih := splt_len c r
    by_cases hb : b = c
    · subst hb; rw [splt_hit]; simp; omega
    · obtain ⟨p, q, h1, h2⟩ := splt_miss hb r
      rw [h2]; rw [h1] at ih; simp at ih ⊢; omega
theorem splt_join : ∀ (c : UInt8) (ws : List B), ws ≠ [] → (∀ w ∈ ws, c ∉ w) → splt c (List.intercalate [c] ws) = ws := by
  intro c ws
  induction ws with
  | nil => intro h; exact absurd rfl h
  | cons w ws ih =>
    intro _ h
    cases ws with
    | nil => simp [List.intercalate, splt_none w (h w (by simp))]
    | cons v ws =>
      have e : List.intercalate [c] (w :: v :: ws) = w ++ c :: List.intercalate [c] (v :: ws) := by simp [List.intercalate]
      rw [e, splt_app _ _ (h w (by simp)), ih (by simp) (fun x hx => h x (by simp [hx]))]
theorem join_splt (c : UInt8) : ∀ l : B, List.intercalate [c] (splt c l) = l
  | [] => by simp [splt, List.intercalate]
  | b :: r => by
    by_cases hb : b = c
    · subst hb
      rw [splt_hit]
      have ih := join_splt b r
      cases hs : splt b r with
      | nil => exact absurd hs (splt_ne _ _)
      | cons p q =>
        rw [hs] at ih
        have e : List.intercalate [b] ([] :: p :: q) = b :: List.intercalate [b] (p :: q) := by simp [List.intercalate]
        rw [e, ih]
    · obtain ⟨p, q, h1, h2⟩ := splt_miss hb r
      have ih := join_splt c r
      rw [h1] at ih
      rw [h2]
      cases q with
      | nil => simp [List.intercalate] at ih ⊢; exact ih
      | cons v q =>
        have e1 : List.intercalate [c] (p :: v :: q) = p ++ c :: List.intercalate [c] (v :: q) := by simp [List.intercalate]
        have e2 : List.intercalate [c] ((b :: p) :: v :: q) = b :: (p ++ c :: List.intercalate [c] (v :: q)) := by simp [List.intercalate]
        rw [e2, ← e1, ih]
def splF (sep : B) : Nat → B → List B
  | 0, l => [l]
  | f + 1, l => if Lib.index l sep = -1 then [l] else l.take (Lib.index l sep).toNat :: splF sep f (l.drop ((Lib.index l sep).toNat + sep.length))
def spl (sep l : B) : List B := splF sep l.length l
theorem idx_nil {sep : B} (hs : 1 ≤ sep.length) : Lib.index [] sep = -1 := by
  cases sep with
  | nil => simp at hs
  | cons a t => rfl
theorem splF_fuel {sep : B} (hs : 1 ≤ sep.length) : ∀ (n f g : Nat) (l : B), l.length ≤ n → l.length ≤ f → l.length ≤ g → splF sep f l = splF sep g l := by
  intro n
  induction n with
  | zero =>
    intro f g l hn hf hg
    obtain rfl : l = [] := List.length_eq_zero_iff.1 (by omega)
    have e : ∀ f, splF sep f [] = [[]] := fun f => by
      cases f with
      | zero => rfl
      | succ f => rw [splF, if_pos (idx_nil hs)]
    rw [e, e]
  | succ n ih =>
    intro f g l hn hf hg
    cases l with
    | nil =>
      have e : ∀ f, splF sep f [] = [[]] := fun f => by
        cases f with
        | zero => rfl
        | succ f => rw [splF, if_pos (idx_nil hs)]
      rw [e, e]
    | cons b l =>
      cases f with
      | zero => simp at hf
      | succ f =>
        cases g with
        | zero => simp at hg
        | succ g =>
          rw [splF, splF]
          split
          · rfl
          · congr 1
            have hd : ((b :: l).drop ((Lib.index (b :: l) sep).toNat + sep.length)).length ≤ l.length := by simp; omega
            simp only [List.length_cons] at hn hf hg
            exact ih f g _ (by omega) (by omega) (by omega)
theorem spl_none {sep l : B} (h : Lib.index l sep = -1) : spl sep l = [l] := by
  unfold spl
  cases hl : l.length with
  | zero => rfl
  | succ n => rw [splF, if_pos h]
theorem spl_hit {sep l : B} {i : Nat} (hs : 1 ≤ sep.length) (h : Lib.index l sep = i) : spl sep l = l.take i :: spl sep (l.drop (i + sep.length)) := by
  have hr := Lib.index_room l sep (by omega)
  unfold spl
  cases hl : l.length with
  | zero => omega
  | succ n =>
    rw [splF, if_neg (by omega), h, Int.toNat_natCast]
    congr 1
    have hd : (l.drop (i + sep.length)).length ≤ n := by simp; omega
    exact splF_fuel hs n _ _ _ hd hd (Nat.le_refl _)
theorem idx_miss {b : UInt8} {l sub : B} (h : sub.isPrefixOf (b :: l) = false) : Lib.index (b :: l) sub = if Lib.index l sub = -1 then -1 else Lib.index l sub + 1 := by
  rw [Lib.index, h]
  by_cases h2 : Lib.index l sub = -1
  · simp [h2]
  · have : (Lib.index l sub == -1) = false := beq_eq_false_iff_ne.2 h2
    simp [this, h2]
theorem pre1 {b c : UInt8} {l : B} (h : b ≠ c) : List.isPrefixOf [c] (b :: l) = false := by
  simp only [List.isPrefixOf]
  rw [show (c == b) = false from beq_eq_false_iff_ne.2 (Ne.symm h)]; rfl
theorem idx1_none {c : UInt8} : ∀ {l : B}, c ∉ l → Lib.index l [c] = -1
  | [], _ => rfl
  | b :: l, h => by
    have hb : b ≠ c := fun e => h (by simp [e])
    rw [idx_miss (pre1 hb), idx1_none (fun e => h (by simp [e]))]; rfl
theorem idx1_some {c : UInt8} : ∀ {p : B} (q : B), c ∉ p → Lib.index (p ++ c :: q) [c] = p.length
  | [], q, _ => by simp [Lib.index, List.isPrefixOf]
  | b :: p, q, h => by
    have hb : b ≠ c := fun e => h (by simp [e])
    have ih := idx1_some (p := p) q (fun e : c ∈ p => h (List.mem_cons_of_mem _ e))
    rw [List.cons_append, idx_miss (pre1 hb), ih, if_neg (by omega), List.length_cons]; omega
theorem spl_one (c : UInt8) : ∀ (n : Nat) (l : B), l.length ≤ n → spl [c] l = splt c l
  | 0, l, hn => by
    obtain rfl : l = [] := List.length_eq_zero_iff.1 (by omega)
    rfl
  | n + 1, l, hn => by
    rcases cut_cases c l with h | ⟨p, r, rfl, hp⟩
    · rw [spl_none (idx1_none h), splt_none l h]
    · rw [spl_hit (by simp) (idx1_some r hp), splt_app _ _ hp, List.take_left, show (p ++ c :: r).drop (p.length + [c].length) = r by rw [show p ++ c :: r = (p ++ [c]) ++ r by simp]; exact List.drop_left' (by simp), spl_one c n r (by simp at hn; omega)]
def isNm (c : UInt8) : Bool := (decide (97 ≤ c.toNat) && decide (c.toNat ≤ 122)) || (decide (65 ≤ c.toNat) && decide (c.toNat ≤ 90)) || (decide (48 ≤ c.toNat) && decide (c.toNat ≤ 57)) || decide (c.toNat = 45)
def nam (s : B) : Bool := s.all isNm && (!s.isEmpty && decide (s.length ≤ 40))
def rng (c : UInt8) : Bool := decide (32 ≤ c.toNat) && decide (c.toNat ≤ 126)
def hq : B → Bool
  | x :: y :: r => (x == 61 && y == 63) || hq (y :: r)
  | _ => false
theorem hq_eq : ∀ s : B, Lib.contains s [61, 63] = hq s
  | [] => rfl
  | [x] => by simp [Lib.contains, hq, Lib.index, List.isPrefixOf]
  | x :: y :: r => by
    have ih := hq_eq (y :: r)
    unfold Lib.contains at ih ⊢
    rw [hq]
    by_cases h : x = 61 ∧ y = 63
    · obtain ⟨rfl, rfl⟩ := h
      simp [Lib.index, List.isPrefixOf]
    · have hp : List.isPrefixOf [61, 63] (x :: y :: r) = false := by
        simp only [List.isPrefixOf, Bool.and_true, Bool.and_eq_false_iff, beq_eq_false_iff_ne]
        by_cases hx : x = 61
        · exact Or.inr (fun e => h ⟨hx, e.symm⟩)
        · exact Or.inl (Ne.symm hx)
      have h2 : (x == 61 && y == 63) = false := by
        rw [Bool.and_eq_false_iff, beq_eq_false_iff_ne, beq_eq_false_iff_ne]
        by_cases hx : x = 61
        · exact Or.inr (fun e => h ⟨hx, e⟩)
        · exact Or.inl hx
      rw [idx_miss hp, h2, Bool.false_or, ← ih]
      have hge := Lib.index_ge (y :: r) [61, 63]
      refine decide_eq_decide.2 ?_
      split
      · rename_i e; rw [e]
      · omega
def okw (w : B) : Bool := !w.isEmpty && !hq w
def pln (s : B) : Bool := s.all rng && (splt 32 s).all okw
def bad (x y : UInt8) : Bool := (x == 32 && y == 32) || (x == 61 && y == 63)
def pr : B → Bool
  | x :: y :: r => !bad x y && pr (y :: r)
  | _ => true
theorem pr_word : ∀ w : B, (32 : UInt8) ∉ w → pr w = !hq w
  | [], _ => rfl
  | [x], _ => rfl
  | x :: y :: r, h => by
    have hx : (x == 32) = false := by rw [beq_eq_false_iff_ne]; exact fun e => h (by simp [e])
    rw [pr, hq, pr_word (y :: r) (fun e => h (List.mem_cons_of_mem _ e)), bad, hx]
    simp
theorem pr_cut : ∀ (p r : B), (32 : UInt8) ∉ p → pr (p ++ 32 :: r) = (pr p && (pr r && !(r.head? == some 32)))
  | [], r, _ => by
    cases r with
    | nil => rfl
    | cons y r =>
      simp only [List.nil_append, pr, bad, List.head?_cons, Option.some_beq_some]
      rw [show ((32 : UInt8) == 32) = true from rfl, show ((32 : UInt8) == 61) = false from rfl]
      cases pr (y :: r) <;> cases (y == 32) <;> rfl
  | [x], r, h => by
    have hx : (x == 32) = false := by rw [beq_eq_false_iff_ne]; exact fun e => h (by simp [e])
    have ih := pr_cut [] r (by simp)
    simp only [List.nil_append, List.cons_append] at ih ⊢
    rw [pr, ih, bad, hx, show ((32 : UInt8) == 63) = false from rfl]
    simp [pr]
  | x :: y :: p, r, h => by
    have ih := pr_cut (y :: p) r (fun e => h (List.mem_cons_of_mem _ e))
    simp only [List.cons_append] at ih ⊢
    rw [pr, ih, pr]
    simp [Bool.and_assoc]
theorem words_ok : ∀ (n : Nat) (s : B), s.length ≤ n → (splt 32 s).all okw = (pr s && (!s.isEmpty && (!(s.head? == some 32) && !(s.getLast? == some 32))))
  | n, s, hn => by
    rcases cut_cases 32 s with h | ⟨p, r, rfl, hp⟩
    · rw [splt_none s h, pr_word s h]
      have h1 : (s.head? == some 32) = false := by
        rw [beq_eq_false_iff_ne]; exact fun e => h (List.mem_of_mem_head? e)
      have h2 : (s.getLast? == some 32) = false := by
        rw [beq_eq_false_iff_ne]; exact fun e => h (List.mem_of_mem_getLast? e)
      rw [h1, h2]
      simp [okw, Bool.and_comm]
    · cases n with
      | zero => simp at hn
      | succ n =>
        rw [splt_app p r hp, pr_cut p r hp, pr_word p hp, List.all_cons, words_ok n r (by simp at hn; omega), okw]
        have hl : ((p ++ 32 :: r).getLast? == some 32) = (r.isEmpty || (r.getLast? == some 32)) := by
          cases r with
          | nil => simp
          | cons y r =>
            obtain ⟨z, hz⟩ : ∃ z, (y :: r).getLast? = some z := ⟨_, List.getLast?_eq_some_getLast (by simp)⟩
            rw [show p ++ 32 :: y :: r = (p ++ [32]) ++ y :: r by simp, List.getLast?_append, hz]; rfl
        have hh : ((p ++ 32 :: r).head? == some 32) = p.isEmpty := by
          cases p with
          | nil => simp
          | cons x p =>
            have hx : x ≠ 32 := fun e => hp (by simp [e])
            simp [hx]
        rw [hl, hh, show (p ++ 32 :: r).isEmpty = false by simp]
        cases p.isEmpty <;> cases hq p <;> cases pr r <;> cases r.isEmpty <;> cases (r.head? == some 32) <;> cases (r.getLast? == some 32) <;> rfl
theorem pln_eq (s : B) : pln s = (s.all rng && (pr s && (!s.isEmpty && (!(s.head? == some 32) && !(s.getLast? == some 32))))) := by
  rw [pln, words_ok _ s (Nat.le_refl _)]
def cont (c : UInt8) : Bool := decide (128 ≤ c.toNat) && decide (c.toNat ≤ 191)
def opn : B := [61, 63, 117, 116, 102, 45, 56, 63, 66, 63]
def cls : B := [63, 61]
def prt (s : B) : Nat := if s.length ≤ 45 then s.length else if cont (s.getD 45 0) = false then 45 else if cont (s.getD 44 0) = false then 44 else if cont (s.getD 43 0) = false then 43 else if cont (s.getD 42 0) = false then 42 else 45
theorem prt_le (s : B) : prt s ≤ s.length := by unfold prt; (repeat' split) <;> omega
theorem prt_45 (s : B) : prt s ≤ 45 := by unfold prt; (repeat' split) <;> omega
theorem prt_pos {s : B} (h : s ≠ []) : 1 ≤ prt s := by
  have := List.length_pos_iff.2 h
  unfold prt; (repeat' split) <;> omega
def code (p : B) : B := opn ++ (raw p ++ cls)
def cod (s : B) : List B := if h : s = [] then [] else code (s.take (prt s)) :: cod (s.drop (prt s))
termination_by s.length
decreasing_by
  have := List.length_pos_iff.2 h
  have := prt_pos h
  simp; omega
theorem cod_nil : cod [] = [] := by rw [cod]; simp
theorem cod_more {s : B} (h : s ≠ []) : cod s = code (s.take (prt s)) :: cod (s.drop (prt s)) := by rw [cod, dif_neg h]
def wds (s : B) : List B := if pln s = true then splt 32 s else cod s
def vis (c : UInt8) : Bool := decide (33 ≤ c.toNat) && decide (c.toNat ≤ 126)
def Wd (w : B) : Prop := w ≠ [] ∧ ∀ c ∈ w, vis c = true
theorem sg_vis : ∀ n, n < 64 → vis (sg n) = true := by decide +kernel
theorem raw_vis {p : B} {c : UInt8} (h : c ∈ raw p) : vis c = true := by
  rcases raw_sign h with rfl | ⟨n, hn, rfl⟩
  · rfl
  · exact sg_vis n hn
theorem code_wd (p : B) : Wd (code p) := by
  refine ⟨by simp [code, opn], fun c hc => ?_⟩
  simp only [code, List.mem_append] at hc
  rcases hc with h | h | h
  · exact (by decide : ∀ c ∈ opn, vis c = true) c h
  · exact raw_vis h
  · exact (by decide : ∀ c ∈ cls, vis c = true) c h
theorem cod_wd : ∀ (n : Nat) (s : B), s.length ≤ n → ∀ w ∈ cod s, Wd w
  | 0, s, hn, w, hw => by
    obtain rfl : s = [] := List.length_eq_zero_iff.1 (by omega)
    rw [cod_nil] at hw; cases hw
  | n + 1, s, hn, w, hw => by
    by_cases h : s = []
    · subst h; rw [cod_nil] at hw; cases hw
    · have := prt_pos h
      have := List.length_pos_iff.2 h
      rw [cod_more h, List.mem_cons] at hw
      rcases hw with rfl | hw
      · exact code_wd _
      · exact cod_wd n _ (by simp; omega) w hw
theorem mem_splt {c : UInt8} : ∀ (l : B) (w : B), w ∈ splt c l → ∀ x ∈ w, x ∈ l ∧ x ≠ c := by
  intro l
  induction l with
  | nil => intro w hw x hx; simp [splt] at hw; subst hw; cases hx
  | cons b r ih =>
    intro w hw x hx
    by_cases hb : b = c
    · subst hb
      rw [splt_hit, List.mem_cons] at hw
      rcases hw with rfl | hw
      · cases hx
      · have := ih w hw x hx; exact ⟨by simp [this.1], this.2⟩
    · obtain ⟨p, q, h1, h2⟩ := splt_miss hb r
      rw [h2, List.mem_cons] at hw
      rcases hw with rfl | hw
      · rcases List.mem_cons.1 hx with rfl | hx
        · exact ⟨by simp, hb⟩
        · have := ih p (by rw [h1]; simp) x hx; exact ⟨by simp [this.1], this.2⟩
      · have := ih w (by rw [h1]; simp [hw]) x hx; exact ⟨by simp [this.1], this.2⟩
theorem pln_words {s : B} (h : pln s = true) : ∀ w ∈ splt 32 s, Wd w ∧ hq w = false := by
  intro w hw
  unfold pln at h
  rw [Bool.and_eq_true, List.all_eq_true, List.all_eq_true] at h
  have ho := h.2 w hw
  unfold okw at ho
  rw [Bool.and_eq_true] at ho
  refine ⟨⟨fun e => by rw [e] at ho; simp at ho, fun c hc => ?_⟩, by simpa using ho.2⟩
  obtain ⟨h1, h2⟩ := mem_splt s w hw c hc
  have h3 := h.1 c h1
  have h4 : c.toNat ≠ 32 := fun e => h2 (UInt8.toNat_inj.1 (by rw [e]; rfl))
  simp only [rng, vis, Bool.and_eq_true, decide_eq_true_eq] at h3 ⊢
  omega
theorem wds_wd (s : B) : ∀ w ∈ wds s, Wd w := by
  intro w hw
  unfold wds at hw
  split at hw
  · rename_i h
    exact (pln_words h w hw).1
  · exact cod_wd _ s (Nat.le_refl _) w hw
noncomputable def decW (w : B) : Option B := if opn.isPrefixOf w = true ∧ cls.isSuffixOf (w.drop 10) = true then byt ((w.drop 10).take ((w.drop 10).length - 2)) else none
theorem decW_code (p : B) : decW (code p) = some p := by
  unfold decW
  have h1 : opn.isPrefixOf (code p) = true := by rw [List.isPrefixOf_iff_prefix]; exact ⟨_, rfl⟩
  have h2 : (code p).drop 10 = raw p ++ cls := by unfold code; exact List.drop_left' rfl
  have h3 : cls.isSuffixOf (raw p ++ cls) = true := by rw [List.isSuffixOf_iff_suffix]; exact ⟨_, rfl⟩
  rw [h2, if_pos ⟨h1, h3⟩, show (raw p ++ cls).length - 2 = (raw p).length by simp [cls], List.take_left, byt_raw]
theorem decW_hq {w : B} (h : hq w = false) : decW w = none := by
  unfold decW
  rw [if_neg]
  rintro ⟨h1, _⟩
  rw [List.isPrefixOf_iff_prefix] at h1
  obtain ⟨t, rfl⟩ := h1
  simp [opn, hq] at h
noncomputable def parts : List B → Option B
  | [] => some []
  | w :: ws => match decW w with
    | none => none
    | some p => (parts ws).map (p ++ ·)
theorem parts_cod : ∀ (n : Nat) (s : B), s.length ≤ n → parts (cod s) = some s
  | 0, s, hn => by
    obtain rfl : s = [] := List.length_eq_zero_iff.1 (by omega)
    rw [cod_nil]; rfl
  | n + 1, s, hn => by
    by_cases h : s = []
    · subst h; rw [cod_nil]; rfl
    · have := prt_pos h
      have := List.length_pos_iff.2 h
      rw [cod_more h, parts, decW_code]
      simp only
      rw [parts_cod n _ (by simp; omega)]
      simp
noncomputable def val (ws : List B) : B := (parts ws).getD (List.intercalate [32] ws)
theorem val_wds (s : B) : val (wds s) = s := by
  unfold val wds
  split
  · rename_i h
    have hw := pln_words h
    cases hs : splt 32 s with
    | nil => exact absurd hs (splt_ne _ _)
    | cons w ws =>
      rw [parts, decW_hq (hw w (by rw [hs]; simp)).2, Option.getD_none, ← hs, join_splt]
  · rw [parts_cod _ s (Nat.le_refl _), Option.getD_some]
noncomputable def dcd (s : B) : B := (parts (splt 32 s)).getD s
theorem dcd_eq (s : B) : dcd s = val (splt 32 s) := by unfold dcd val; rw [join_splt]
theorem dcd_wds (s : B) : dcd (List.intercalate [32] (wds s)) = s := by
  by_cases h : wds s = []
  · have := val_wds s
    rw [h] at this ⊢
    have e : val [] = [] := rfl
    rw [e] at this
    rw [← this]
    unfold dcd
    have : splt 32 (List.intercalate [32] []) = [[]] := rfl
    rw [this, parts, decW_hq (w := []) rfl]; rfl
  · rw [dcd_eq, splt_join _ _ h (fun w hw hc => ?_), val_wds]
    have := (wds_wd s w hw).2 32 hc
    exact absurd this (by decide)
abbrev Hdr := B × B
def okH (h : Hdr) : Bool := nam h.1 && decide (h.2.length ≤ 4000)
def fil : Nat → List B → B
  | _, [] => [13, 10]
  | k, w :: ws => if 76 < k + 1 + w.length then 13 :: 10 :: 32 :: (w ++ fil (1 + w.length) ws) else 32 :: (w ++ fil (k + 1 + w.length) ws)
def bdy (h : Hdr) : B := fil (h.1.length + 1) (wds h.2)
def lnH (h : Hdr) : B := h.1 ++ 58 :: bdy h
def line (h : Hdr) : Option B := if okH h = true then some (lnH h) else none
def flatW (ws : List B) : B := ws.flatMap (32 :: ·)
def flat (h : Hdr) : B := h.1 ++ 58 :: flatW (wds h.2)
def unf : B → B
  | 13 :: 10 :: 32 :: r => 32 :: unf r
  | c :: r => c :: unf r
  | [] => []
theorem unf_ne {c : UInt8} (r : B) (h : c ≠ 13) : unf (c :: r) = c :: unf r := by
  rw [unf]
  intro r' e
  exact absurd e h
theorem unf_word : ∀ (w r : B), (13 : UInt8) ∉ w → unf (w ++ r) = w ++ unf r
  | [], r, _ => rfl
  | c :: w, r, h => by
    rw [List.cons_append, unf_ne _ (fun e => h (by simp [e])), unf_word w r (fun e => h (by simp [e])), List.cons_append]
theorem wd_13 {w : B} (h : Wd w) : (13 : UInt8) ∉ w := fun e => absurd (h.2 13 e) (by decide)
theorem unf_end : ∀ (r : B), r.head? ≠ some 32 → unf (13 :: 10 :: r) = 13 :: 10 :: unf r := by
  intro r h
  rw [unf, unf_ne _ (by decide)]
  intro r' _ e
  simp only [List.cons.injEq, true_and] at e
  exact h (by rw [e]; rfl)
theorem unf_fil : ∀ (ws : List B) (k : Nat) (r : B), (∀ w ∈ ws, Wd w) → r.head? ≠ some 32 → unf (fil k ws ++ r) = flatW ws ++ 13 :: 10 :: unf r
  | [], k, r, _, hr => by
    show unf (13 :: 10 :: r) = _
    rw [unf_end r hr]; rfl
  | w :: ws, k, r, h, hr => by
    have h13 := wd_13 (h w (by simp))
    have ih := fun j => unf_fil ws j r (fun x hx => h x (by simp [hx])) hr
    rw [fil]
    split
    · show unf (13 :: 10 :: 32 :: ((w ++ fil (1 + w.length) ws) ++ r)) = _
      rw [unf, List.append_assoc, unf_word _ _ h13, ih]
      simp [flatW]
    · show unf (32 :: ((w ++ fil (k + 1 + w.length) ws) ++ r)) = _
      rw [unf_ne _ (by decide), List.append_assoc, unf_word _ _ h13, ih]
      simp [flatW]
theorem nam_all {s : B} (h : nam s = true) : (∀ c ∈ s, isNm c = true) ∧ s ≠ [] ∧ s.length ≤ 40 := by
  unfold nam at h
  rw [Bool.and_eq_true, Bool.and_eq_true, List.all_eq_true] at h
  exact ⟨h.1, fun e => by rw [e] at h; simp at h, by simpa using h.2.2⟩
theorem nam_13 {s : B} (h : nam s = true) : (13 : UInt8) ∉ s := fun e => absurd ((nam_all h).1 13 e) (by decide)
theorem nam_58 {s : B} (h : nam s = true) : (58 : UInt8) ∉ s := fun e => absurd ((nam_all h).1 58 e) (by decide)
theorem okH_nam {h : Hdr} (hk : okH h = true) : nam h.1 = true ∧ h.2.length ≤ 4000 := by
  unfold okH at hk
  rw [Bool.and_eq_true] at hk
  exact ⟨hk.1, by simpa using hk.2⟩
theorem unf_line {h : Hdr} (hk : okH h = true) (r : B) (hr : r.head? ≠ some 32) : unf (lnH h ++ r) = flat h ++ 13 :: 10 :: unf r := by
  have hn := nam_13 (okH_nam hk).1
  unfold lnH flat bdy
  rw [List.append_assoc, unf_word _ _ hn, List.cons_append, unf_ne _ (by decide), unf_fil _ _ _ (wds_wd _) hr]
  simp
theorem lnH_head {h : Hdr} (hk : okH h = true) : ∃ c r, lnH h = c :: r ∧ c ≠ 13 ∧ c ≠ 32 := by
  obtain ⟨h1, h2, _⟩ := nam_all (okH_nam hk).1
  cases hn : h.1 with
  | nil => exact absurd hn h2
  | cons c t =>
    refine ⟨c, t ++ 58 :: bdy h, by unfold lnH; rw [hn]; rfl, fun e => ?_, fun e => ?_⟩
    · exact absurd (h1 c (by rw [hn]; simp)) (by rw [e]; decide)
    · exact absurd (h1 c (by rw [hn]; simp)) (by rw [e]; decide)
theorem pre3 {b : UInt8} {l : B} (h : ¬ ∃ r, b :: l = 13 :: 10 :: 32 :: r) : List.isPrefixOf [13, 10, 32] (b :: l) = false := by
  rw [Bool.eq_false_iff]
  intro e
  rw [List.isPrefixOf_iff_prefix] at e
  obtain ⟨t, e⟩ := e
  exact h ⟨t, e.symm⟩
theorem unf_miss {b : UInt8} {l : B} (h : ¬ ∃ r, b :: l = 13 :: 10 :: 32 :: r) : unf (b :: l) = b :: unf l := by
  rw [unf]
  intro r e1 e2
  exact h ⟨r, by rw [e1, e2]⟩
theorem rplK_unf : ∀ (n : Nat) (s : B), s.length ≤ n → ∀ f, s.length < f → Lib.replaceK [13, 10, 32] [32] (Lib.countFrom [13, 10, 32] f s) s = unf s := by
  intro n
  induction n with
  | zero =>
    intro s hn f hf
    obtain rfl : s = [] := List.length_eq_zero_iff.1 (by omega)
    cases f with
    | zero => simp at hf
    | succ f => rfl
  | succ n ih =>
    intro s hn f hf
    cases s with
    | nil => cases f with
      | zero => simp at hf
      | succ f => rfl
    | cons b l =>
      cases f with
      | zero => simp at hf
      | succ f =>
        by_cases h : ∃ r, b :: l = 13 :: 10 :: 32 :: r
        · obtain ⟨r, hr⟩ := h
          rw [hr] at hn hf ⊢
          have hi : Lib.index (13 :: 10 :: 32 :: r) [13, 10, 32] = 0 := by simp [Lib.index, List.isPrefixOf]
          have hc : Lib.countFrom [13, 10, 32] (f + 1) (13 :: 10 :: 32 :: r) = Lib.countFrom [13, 10, 32] f r + 1 := by
            rw [Lib.countFrom, hi, if_neg (by decide)]
            show 1 + Lib.countFrom [13, 10, 32] f r = _
            omega
          rw [hc, Lib.replaceK, hi, if_neg (by decide), unf]
          show [] ++ [32] ++ Lib.replaceK [13, 10, 32] [32] (Lib.countFrom [13, 10, 32] f r) r = _
          rw [ih r (by simp at hn; omega) f (by simp at hf; omega)]; rfl
        · have hl := ih l (by simp at hn; omega) (f + 1) (by simp at hf; omega)
          have hp := idx_miss (pre3 h)
          rw [unf_miss h, ← hl]
          have hge := Lib.index_ge l [13, 10, 32]
          by_cases h2 : Lib.index l [13, 10, 32] = -1
          · rw [if_pos h2] at hp
            rw [Lib.countFrom, hp, Lib.countFrom, h2]; rfl
          · rw [if_neg h2] at hp
            have hq : ∀ (x : Int), x ≠ -1 → (x == -1) = false := fun x hx => beq_eq_false_iff_ne.2 hx
            have hd : (b :: l).drop ((Lib.index l [13, 10, 32] + 1).toNat + 3) = l.drop ((Lib.index l [13, 10, 32]).toNat + 3) := by
              rw [show (Lib.index l [13, 10, 32] + 1).toNat + 3 = ((Lib.index l [13, 10, 32]).toNat + 3) + 1 by omega]; rfl
            have ht : (b :: l).take (Lib.index l [13, 10, 32] + 1).toNat = b :: l.take (Lib.index l [13, 10, 32]).toNat := by
              rw [show (Lib.index l [13, 10, 32] + 1).toNat = (Lib.index l [13, 10, 32]).toNat + 1 by omega]; rfl
            rw [Lib.countFrom, hp, hq _ (by omega), Lib.countFrom, hq _ h2, show ([13, 10, 32] : B).length = 3 from rfl, hd]
            simp only [Bool.false_eq_true, if_false]
            rw [Nat.add_comm 1, Lib.replaceK, Lib.replaceK, hp, hq _ (by omega), hq _ h2, show ([13, 10, 32] : B).length = 3 from rfl, hd, ht]
            simp
theorem rpl_unf (s : B) : Lib.replaceAll s [13, 10, 32] [32] = unf s := by
  unfold Lib.replaceAll Lib.replace Lib.replaceNum Lib.count
  rw [if_neg (by decide), if_pos (Or.inl (by decide))]
  exact rplK_unf _ _ (Nat.le_refl _) _ (Nat.lt_succ_self _)
theorem unf_len : ∀ (n : Nat) (s : B), s.length ≤ n → (unf s).length ≤ s.length
  | n, [], _ => by simp [unf]
  | 0, b :: l, h => by simp at h
  | n + 1, b :: l, h => by
    by_cases q : ∃ r, b :: l = 13 :: 10 :: 32 :: r
    · obtain ⟨r, hr⟩ := q
      rw [hr] at h ⊢
      have := unf_len n r (by simp at h; omega)
      rw [unf]; simp; omega
    · have := unf_len n l (by simp at h; omega)
      rw [unf_miss q]; simp; omega
theorem flatW_nil : flatW [] = [] := rfl
theorem flatW_cons (w : B) (ws : List B) : flatW (w :: ws) = 32 :: List.intercalate [32] (w :: ws) := by
  induction ws generalizing w with
  | nil => simp [flatW, List.intercalate]
  | cons v ws ih =>
    have e : List.intercalate [32] (w :: v :: ws) = w ++ 32 :: List.intercalate [32] (v :: ws) := by simp [List.intercalate]
    rw [e, ← ih v]
    simp [flatW]
noncomputable def hdr (l : B) : Hdr := ((Lib.cut l [58]).1, dcd (Lib.trimPrefix (Lib.cut l [58]).2.1 [32]))
theorem cut_hit {p q : B} (h : (58 : UInt8) ∉ p) : Lib.cut (p ++ 58 :: q) [58] = (p, q, true) := by
  have hi := idx1_some (p := p) q h
  unfold Lib.cut
  rw [if_pos (by omega), hi, Int.toNat_natCast, List.take_left, show (p ++ 58 :: q).drop (p.length + ([58] : B).length) = q by rw [show p ++ 58 :: q = (p ++ [58]) ++ q by simp]; exact List.drop_left' (by simp)]
theorem hdr_flat {h : Hdr} (hk : okH h = true) : hdr (flat h) = h := by
  have hn := nam_58 (okH_nam hk).1
  unfold hdr flat
  rw [cut_hit hn]
  obtain ⟨n, t⟩ := h
  simp only
  congr 1
  have hd := dcd_wds t
  cases hw : wds t with
  | nil =>
    rw [hw] at hd
    rw [flatW_nil]
    have : Lib.trimPrefix [] [32] = ([] : B) := rfl
    rw [this]
    exact hd
  | cons w ws =>
    rw [flatW_cons, ← hw]
    have : Lib.trimPrefix (32 :: List.intercalate [32] (wds t)) [32] = List.intercalate [32] (wds t) := by
      unfold Lib.trimPrefix Lib.hasPrefix
      simp [List.isPrefixOf]
    rw [this, hd]
theorem line_lnH {h : Hdr} (hk : okH h = true) : line h = some (lnH h) := by unfold line; rw [if_pos hk]
def stop (c : UInt8) : Bool := c == 32 || c == 13 || c == 10
def lns (l : List Hdr) : B := l.flatMap lnH
def lnA (l : List Hdr) : B := lns l ++ [13, 10]
def okA (l : List Hdr) : Bool := l.all okH && decide (l.length ≤ 50)
def all (l : List Hdr) : Option B := if okA l = true then some (lnA l) else none
theorem lns_cons (h : Hdr) (l : List Hdr) : lns (h :: l) = lnH h ++ lns l := rfl
theorem okA_all {l : List Hdr} (h : okA l = true) : (∀ x ∈ l, okH x = true) ∧ l.length ≤ 50 := by
  unfold okA at h
  rw [Bool.and_eq_true, List.all_eq_true] at h
  exact ⟨h.1, by simpa using h.2⟩
theorem all_ok {l : List Hdr} {a : B} (e : all l = some a) : okA l = true ∧ a = lnA l := by
  unfold all at e
  split at e
  · rename_i hk; cases e; exact ⟨hk, rfl⟩
  · cases e
theorem all_lnA {l : List Hdr} (hk : okA l = true) : all l = some (lnA l) := by unfold all; rw [if_pos hk]
theorem lns_head {l : List Hdr} (h : ∀ x ∈ l, okH x = true) (r : B) : (lns l ++ 13 :: 10 :: r).head? ≠ some 32 := by
  cases l with
  | nil => simp [lns]
  | cons x l =>
    obtain ⟨c, t, hc, h1, h2⟩ := lnH_head (h x (by simp))
    rw [lns_cons, hc]
    simpa using h2
theorem unf_lns : ∀ (l : List Hdr), (∀ x ∈ l, okH x = true) → unf (lns l ++ [13, 10]) = l.flatMap (fun h => flat h ++ [13, 10]) ++ [13, 10]
  | [], _ => rfl
  | h :: l, hk => by
    have hl := fun x hx => hk x (List.mem_cons_of_mem _ hx)
    rw [lns_cons, List.append_assoc, unf_line (hk h (by simp)) _ (lns_head hl []), unf_lns l hl]
    simp
theorem flat_13 {h : Hdr} (hk : okH h = true) : (13 : UInt8) ∉ flat h := by
  have hn := nam_13 (okH_nam hk).1
  unfold flat
  rw [List.mem_append, List.mem_cons]
  rintro (e | e | e)
  · exact hn e
  · exact absurd e (by decide)
  · rw [flatW, List.mem_flatMap] at e
    obtain ⟨w, hw, e⟩ := e
    rcases List.mem_cons.1 e with e | e
    · exact absurd e (by decide)
    · exact wd_13 (wds_wd _ w hw) e
theorem flat_ne (h : Hdr) : flat h ≠ [] := by simp [flat]
theorem idx2_some : ∀ (t s : B), (13 : UInt8) ∉ t → Lib.index (t ++ 13 :: 10 :: s) [13, 10] = t.length := fun t s h => Bx.idx_app t s (fun c hc e => h (e ▸ hc))
theorem spl_crlf (t s : B) (h : (13 : UInt8) ∉ t) : spl [13, 10] (t ++ 13 :: 10 :: s) = t :: spl [13, 10] s := by
  rw [spl_hit (by simp) (idx2_some t s h), List.take_left, show (t ++ 13 :: 10 :: s).drop (t.length + ([13, 10] : B).length) = s by rw [show t ++ 13 :: 10 :: s = (t ++ [13, 10]) ++ s by simp]; exact List.drop_left' (by simp)]
noncomputable def gueA (s : B) : List Hdr := ((spl [13, 10] (unf s)).filter (fun l => !l.isEmpty)).map hdr
theorem spl_lns : ∀ (l : List Hdr), (∀ x ∈ l, okH x = true) → spl [13, 10] (l.flatMap (fun h => flat h ++ [13, 10]) ++ [13, 10]) = l.map flat ++ [[], []]
  | [], _ => by
    have := spl_crlf [] [] (by simp)
    have h0 : spl [13, 10] ([] : B) = [[]] := rfl
    rw [h0] at this
    exact this
  | h :: l, hk => by
    have e : (h :: l).flatMap (fun h => flat h ++ [13, 10]) ++ [13, 10] = flat h ++ 13 :: 10 :: (l.flatMap (fun h => flat h ++ [13, 10]) ++ [13, 10]) := by simp
    rw [e, spl_crlf _ _ (flat_13 (hk h (by simp))), spl_lns l (fun x hx => hk x (List.mem_cons_of_mem _ hx))]
    rfl
theorem gueA_all {l : List Hdr} (hk : ∀ x ∈ l, okH x = true) : gueA (lnA l) = l := by
  unfold gueA lnA
  rw [unf_lns l hk, spl_lns l hk, List.filter_append, show (([[], []] : List B).filter fun l => !l.isEmpty) = [] from rfl, List.append_nil, List.filter_eq_self.2 (fun x hx => by
    obtain ⟨h, _, rfl⟩ := List.mem_map.1 hx
    have := flat_ne h
    cases hf : flat h with
    | nil => exact absurd hf this
    | cons a b => rfl), List.map_map]
  conv => rhs; rw [← List.map_id l]
  exact List.map_congr_left fun h hh => hdr_flat (hk h hh)
def ix4 : B → Option Nat
  | 13 :: 10 :: 13 :: 10 :: r => some 0
  | c :: r => (ix4 r).map (· + 1)
  | [] => none
theorem pre4 {b : UInt8} {l : B} (h : ¬ ∃ r, b :: l = 13 :: 10 :: 13 :: 10 :: r) : List.isPrefixOf [13, 10, 13, 10] (b :: l) = false := by
  rw [Bool.eq_false_iff]
  intro e
  rw [List.isPrefixOf_iff_prefix] at e
  obtain ⟨t, e⟩ := e
  exact h ⟨t, e.symm⟩
theorem ix4_miss {b : UInt8} {l : B} (h : ¬ ∃ r, b :: l = 13 :: 10 :: 13 :: 10 :: r) : ix4 (b :: l) = (ix4 l).map (· + 1) := by
  rw [ix4]
  intro r e1 e2
  exact h ⟨r, by rw [e1, e2]⟩
theorem ix4_ne {b : UInt8} (l : B) (h : b ≠ 13) : ix4 (b :: l) = (ix4 l).map (· + 1) := ix4_miss (fun ⟨r, e⟩ => h (by injection e))
theorem ix4_index : ∀ s : B, Lib.index s [13, 10, 13, 10] = match ix4 s with | none => -1 | some i => (i : Int)
  | [] => rfl
  | b :: l => by
    by_cases h : ∃ r, b :: l = 13 :: 10 :: 13 :: 10 :: r
    · obtain ⟨r, hr⟩ := h
      rw [hr, ix4]
      simp [Lib.index, List.isPrefixOf]
    · rw [idx_miss (pre4 h), ix4_miss h, ix4_index l]
      cases ix4 l with
      | none => rfl
      | some i =>
        simp only [Option.map_some]
        rw [if_neg (by omega)]; rfl
theorem map_add (o : Option Nat) (a b c : Nat) (h : c = a + b) : (o.map (· + a)).map (· + b) = o.map (· + c) := by
  cases o with
  | none => rfl
  | some i => simp; omega
theorem ix4_word : ∀ (w r : B), (13 : UInt8) ∉ w → ix4 (w ++ r) = (ix4 r).map (· + w.length)
  | [], r, _ => by cases hx : ix4 r <;> simp [hx]
  | c :: w, r, h => by
    rw [List.cons_append, ix4_ne _ (fun e => h (by simp [e])), ix4_word w r (fun e => h (by simp [e])), map_add _ _ _ _ rfl]; rfl
theorem ix4_fold {c : UInt8} (r : B) (h : c ≠ 13) : ix4 (13 :: 10 :: c :: r) = (ix4 (c :: r)).map (· + 2) := by
  rw [ix4_miss, ix4_ne _ (by decide), map_add _ _ _ _ rfl]
  rintro ⟨r', e⟩
  simp only [List.cons.injEq, true_and] at e
  exact h e.1
theorem ix4_fil : ∀ (ws : List B) (k : Nat) (c : UInt8) (r : B), (∀ w ∈ ws, Wd w) → c ≠ 13 → ix4 (fil k ws ++ c :: r) = (ix4 (c :: r)).map (· + (fil k ws).length)
  | [], k, c, r, _, hc => ix4_fold r hc
  | w :: ws, k, c, r, h, hc => by
    have h13 := wd_13 (h w (by simp))
    have ih := fun j => ix4_fil ws j c r (fun x hx => h x (by simp [hx])) hc
    rw [fil]
    split
    · show ix4 (13 :: 10 :: 32 :: ((w ++ fil (1 + w.length) ws) ++ c :: r)) = _
      rw [ix4_fold _ (by decide), ix4_ne _ (by decide), List.append_assoc, ix4_word _ _ h13, ih, map_add _ _ _ _ rfl, map_add _ _ _ _ rfl, map_add _ _ _ _ rfl]
      simp; congr 1; funext x; omega
    · show ix4 (32 :: ((w ++ fil (k + 1 + w.length) ws) ++ c :: r)) = _
      rw [ix4_ne _ (by decide), List.append_assoc, ix4_word _ _ h13, ih, map_add _ _ _ _ rfl, map_add _ _ _ _ rfl]
      simp; congr 1; funext x; omega
theorem ix4_end : ∀ (ws : List B) (k : Nat) (r : B), (∀ w ∈ ws, Wd w) → ix4 (fil k ws ++ 13 :: 10 :: r) = some ((fil k ws).length - 2) ∧ 2 ≤ (fil k ws).length
  | [], k, r, _ => ⟨rfl, Nat.le_refl 2⟩
  | w :: ws, k, r, h => by
    have h13 := wd_13 (h w (by simp))
    have ih := fun j => ix4_end ws j r (fun x hx => h x (by simp [hx]))
    rw [fil]
    split
    · have ih := ih (1 + w.length)
      constructor
      · show ix4 (13 :: 10 :: 32 :: ((w ++ fil (1 + w.length) ws) ++ 13 :: 10 :: r)) = _
        rw [ix4_fold _ (by decide), ix4_ne _ (by decide), List.append_assoc, ix4_word _ _ h13, ih.1]
        simp; omega
      · simp
    · have ih := ih (k + 1 + w.length)
      constructor
      · show ix4 (32 :: ((w ++ fil (k + 1 + w.length) ws) ++ 13 :: 10 :: r)) = _
        rw [ix4_ne _ (by decide), List.append_assoc, ix4_word _ _ h13, ih.1]
        simp; omega
      · simp; omega
theorem lnH_parts (h : Hdr) : lnH h = (h.1 ++ [58]) ++ bdy h := by unfold lnH; simp
theorem nam_13c {h : Hdr} (hk : okH h = true) : (13 : UInt8) ∉ h.1 ++ [58] := by
  rw [List.mem_append]
  rintro (e | e)
  · exact nam_13 (okH_nam hk).1 e
  · simp at e
theorem ix4_lns : ∀ (l : List Hdr) (r : B), (∀ x ∈ l, okH x = true) → l ≠ [] → ix4 (lns l ++ 13 :: 10 :: r) = some ((lns l).length - 2) ∧ 2 ≤ (lns l).length
  | [], r, _, h => absurd rfl h
  | [h], r, hk, _ => by
    have h1 := hk h (by simp)
    obtain ⟨i1, i2⟩ := ix4_end (wds h.2) (h.1.length + 1) r (wds_wd _)
    rw [lns_cons, show lns [] = [] from rfl, List.append_nil, lnH_parts, List.append_assoc, ix4_word _ _ (nam_13c h1)]
    unfold bdy
    rw [i1]
    refine ⟨?_, ?_⟩
    · simp; omega
    · simp; omega
  | h :: x :: l, r, hk, _ => by
    have h1 := hk h (by simp)
    obtain ⟨i1, i2⟩ := ix4_lns (x :: l) r (fun y hy => hk y (List.mem_cons_of_mem _ hy)) (by simp)
    obtain ⟨c, t, hc, hc1, hc2⟩ := lnH_head (hk x (by simp))
    have e : lns (x :: l) ++ 13 :: 10 :: r = c :: (t ++ lns l ++ 13 :: 10 :: r) := by rw [lns_cons, hc]; simp
    rw [lns_cons, List.append_assoc, lnH_parts, List.append_assoc, ix4_word _ _ (nam_13c h1)]
    rw [e] at i1 ⊢
    unfold bdy
    rw [ix4_fil _ _ _ _ (wds_wd _) hc1, i1]
    refine ⟨?_, ?_⟩
    · simp only [Option.map_some, List.length_append]; congr 1; omega
    · simp only [List.length_append]; omega
def siz (b : B) : Nat := if List.isPrefixOf [13, 10] b = true then 2 else if 0 ≤ Lib.index b [13, 10, 13, 10] then (Lib.index b [13, 10, 13, 10]).toNat + 4 else b.length
theorem siz_all {l : List Hdr} (hk : ∀ x ∈ l, okH x = true) (r : B) : siz (lnA l ++ r) = (lnA l).length := by
  unfold siz lnA
  cases l with
  | nil =>
    rw [if_pos (by simp [lns, List.isPrefixOf])]; rfl
  | cons h l =>
    obtain ⟨c, t, hc, hc1, hc2⟩ := lnH_head (hk h (by simp))
    have hp : List.isPrefixOf [13, 10] ((lns (h :: l) ++ [13, 10]) ++ r) = false := by
      rw [lns_cons, hc]
      exact Bx.pre_ne hc1
    obtain ⟨i1, i2⟩ := ix4_lns (h :: l) r hk (by simp)
    have e : (lns (h :: l) ++ [13, 10]) ++ r = lns (h :: l) ++ 13 :: 10 :: r := by simp
    rw [hp, e, ix4_index, i1, if_neg (by decide), if_pos (by simp)]
    simp; omega
theorem siz_le (b : B) : siz b ≤ b.length := by
  unfold siz
  split
  · rename_i h
    rw [List.isPrefixOf_iff_prefix] at h
    exact h.length_le
  split
  · rename_i _ h
    have := Lib.index_room b [13, 10, 13, 10] h
    simp at this
    omega
  · exact Nat.le_refl _
noncomputable def cutA (b : B) : Option (List Hdr × B) := if all (gueA (b.take (siz b))) = some (b.take (siz b)) then some (gueA (b.take (siz b)), b.drop (siz b)) else none
theorem cutA_iff {b : B} {l : List Hdr} {r : B} : cutA b = some (l, r) ↔ okA l = true ∧ b = lnA l ++ r := by
  unfold cutA
  constructor
  · intro e
    split at e
    · rename_i h
      obtain ⟨h1, h2⟩ := all_ok h
      cases e
      exact ⟨h1, by rw [← h2, List.take_append_drop]⟩
    · cases e
  · rintro ⟨hk, rfl⟩
    have h1 := okA_all hk
    rw [siz_all h1.1 r, List.take_left, List.drop_left, gueA_all h1.1, if_pos (all_lnA hk)]
def stL (s : B × Nat) (w : B) : B × Nat := if 76 < s.2 + 1 + w.length then ((s.1 ++ [13, 10]) ++ ([32] ++ w), 1 + w.length) else (s.1 ++ ([32] ++ w), s.2 + 1 + w.length)
theorem stL_yes {l : B} {k : Nat} {w : B} (h : 76 < k + 1 + w.length) : stL (l, k) w = ((l ++ [13, 10]) ++ ([32] ++ w), 1 + w.length) := if_pos h
theorem stL_no {l : B} {k : Nat} {w : B} (h : ¬ 76 < k + 1 + w.length) : stL (l, k) w = (l ++ ([32] ++ w), k + 1 + w.length) := if_neg h
theorem fil_fold : ∀ (ws : List B) (l : B) (k : Nat), l ++ fil k ws = (ws.foldl stL (l, k)).1 ++ [13, 10]
  | [], l, k => rfl
  | w :: ws, l, k => by
    rw [fil, List.foldl_cons]
    by_cases h : 76 < k + 1 + w.length
    · rw [if_pos h, stL_yes h, ← fil_fold ws]; simp
    · rw [if_neg h, stL_no h, ← fil_fold ws]; simp
theorem stL_take {ws : List B} {k : Nat} {t : B} (s : B × Nat) (h : ws[k]? = some t) : (ws.take (k + 1)).foldl stL s = stL ((ws.take k).foldl stL s) t := by
  rw [List.take_add_one, h, List.foldl_append]; rfl
theorem stL_len (M : Nat) : ∀ (ws : List B) (s : B × Nat), (∀ w ∈ ws, w.length ≤ M) → (ws.foldl stL s).1.length ≤ s.1.length + ws.length * (M + 3) ∧ (ws.foldl stL s).2 ≤ s.2 + M + 77
  | [], s, _ => by simp; omega
  | w :: ws, s, h => by
    have hw := h w (by simp)
    obtain ⟨h1, h2⟩ := stL_len M ws (stL s w) (fun x hx => h x (by simp [hx]))
    have k1 : (stL s w).1.length ≤ s.1.length + (M + 3) := by unfold stL; split <;> simp <;> omega
    have h3 : ∀ (vs : List B) (q : B × Nat), q.2 ≤ M + 77 → (∀ x ∈ vs, x.length ≤ M) → (vs.foldl stL q).2 ≤ M + 77 := by
      intro vs
      induction vs with
      | nil => intro q hq _; exact hq
      | cons v vs ih =>
        intro q hq hv
        rw [List.foldl_cons]
        refine ih _ ?_ (fun x hx => hv x (by simp [hx]))
        have := hv v (by simp)
        unfold stL
        split
        · simp only; omega
        · simp only; omega
    have k2 : (stL s w).2 ≤ M + 77 := by unfold stL; split <;> simp only <;> omega
    have := h3 ws _ k2 (fun x hx => h x (by simp [hx]))
    rw [List.foldl_cons, List.length_cons, Nat.add_mul, Nat.one_mul]
    omega
def sumW : List B → Nat
  | [] => 0
  | w :: ws => w.length + 3 + sumW ws
theorem fil_len : ∀ (ws : List B) (k : Nat), (fil k ws).length ≤ 2 + sumW ws
  | [], k => by simp [fil]
  | w :: ws, k => by
    rw [fil, sumW]
    have h1 := fil_len ws (1 + w.length)
    have h2 := fil_len ws (k + 1 + w.length)
    split
    · simp; omega
    · simp; omega
theorem sumW_splt : ∀ (n : Nat) (s : B), s.length ≤ n → sumW (splt 32 s) ≤ 3 * s.length + 3
  | n, s, hn => by
    rcases cut_cases 32 s with h | ⟨p, r, rfl, hp⟩
    · rw [splt_none s h]; simp [sumW]; omega
    · cases n with
      | zero => simp at hn
      | succ n =>
        have := sumW_splt n r (by simp at hn; omega)
        rw [splt_app p r hp, sumW]; simp; omega
theorem sumW_cod : ∀ (n : Nat) (s : B), s.length ≤ n → sumW (cod s) ≤ 19 * s.length
  | 0, s, hn => by
    obtain rfl : s = [] := List.length_eq_zero_iff.1 (by omega)
    rw [cod_nil]; simp [sumW]
  | n + 1, s, hn => by
    by_cases h : s = []
    · subst h; rw [cod_nil]; simp [sumW]
    · have h1 := prt_pos h
      have h2 := prt_le s
      have h0 := List.length_pos_iff.2 h
      have hd : (s.drop (prt s)).length = s.length - prt s := by simp
      have ht : (s.take (prt s)).length = prt s := by simp; omega
      have ih := sumW_cod n (s.drop (prt s)) (by omega)
      have hr := raw_len (s.take (prt s))
      rw [cod_more h, sumW]
      simp only [code, List.length_append, hr, ht, opn, cls, List.length_cons, List.length_nil]
      omega
theorem sumW_wds (s : B) : sumW (wds s) ≤ 19 * s.length + 3 := by
  unfold wds
  split
  · have := sumW_splt _ s (Nat.le_refl _); omega
  · have := sumW_cod _ s (Nat.le_refl _); omega
theorem sumW_len : ∀ ws : List B, ws.length ≤ sumW ws ∧ ∀ w ∈ ws, w.length ≤ sumW ws
  | [] => ⟨Nat.le_refl _, fun _ h => by cases h⟩
  | w :: ws => by
    obtain ⟨h1, h2⟩ := sumW_len ws
    refine ⟨by rw [sumW]; simp; omega, fun x hx => ?_⟩
    rw [sumW]
    rcases List.mem_cons.1 hx with rfl | hx
    · omega
    · have := h2 x hx; omega
theorem lnH_len (h : Hdr) : (lnH h).length ≤ h.1.length + 19 * h.2.length + 6 := by
  have h1 := fil_len (wds h.2) (h.1.length + 1)
  have h2 := sumW_wds h.2
  unfold lnH bdy
  simp; omega
theorem lns_len (K : Nat) : ∀ l : List Hdr, (∀ h ∈ l, (lnH h).length ≤ K) → (lns l).length ≤ l.length * K
  | [], _ => by simp [lns]
  | h :: l, hk => by
    have h1 := hk h (by simp)
    have h2 := lns_len K l (fun x hx => hk x (by simp [hx]))
    rw [lns_cons, List.length_append, List.length_cons, Nat.add_mul, Nat.one_mul]
    omega
end Go.Proofs.YtjlpkgipdkjfhaaGreatDoor.Bk.Hd
