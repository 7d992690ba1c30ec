/- Plain mathematics of sixty-four signs: what Raw, Bytes, Encode and Decode answer; that what is coded is read back, by either way of reading. -/
import Derived.RowKit
import Derived.KernelRfl
import Derived.Lib.Bytealg
import Derived.Lib.TrimByte
import Derived.Lib.Replace
set_option linter.unusedSimpArgs false
set_option linter.unusedVariables false
namespace Go.Proofs.YtdhhlcgmkkpldaaGreatDoor.Bx
abbrev B := List UInt8
def sgS : B := [65, 66, 67, 68, 69, 70, 71, 72, 73, 74, 75, 76, 77, 78, 79, 80, 81, 82, 83, 84, 85, 86, 87, 88, 89, 90, 97, 98, 99, 100, 101, 102, 103, 104, 105, 106, 107, 108, 109, 110, 111, 112, 113, 114, 115, 116, 117, 118, 119, 120, 121, 122, 48, 49, 50, 51, 52, 53, 54, 55, 56, 57, 43, 47]
/-- a number's sign -/
def sg (n : Nat) : UInt8 := sgS.getD n 0
/-- three bytes' number -/
def num (a b c : UInt8) : Nat := 65536 * a.toNat + 256 * b.toNat + c.toNat
theorem num_lt (a b c : UInt8) : num a b c < 16777216 := by
  have := a.toNat_lt; have := b.toNat_lt; have := c.toNat_lt
  unfold num; omega
/-- a number's four signs -/
def fo (n : Nat) : B := [sg (n / 262144), sg (n / 4096 % 64), sg (n / 64 % 64), sg (n % 64)]
/-- bytes as signs -/
def raw : B → B
  | [] => []
  | [a] => [sg (num a 0 0 / 262144), sg (num a 0 0 / 4096 % 64), 61, 61]
  | [a, b] => [sg (num a b 0 / 262144), sg (num a b 0 / 4096 % 64), sg (num a b 0 / 64 % 64), 61]
  | a :: b :: c :: r => sg (num a b c / 262144) :: sg (num a b c / 4096 % 64) :: sg (num a b c / 64 % 64) :: sg (num a b c % 64) :: raw r
/-- without what stands for none -/
def rawT : B → B
  | [] => []
  | [a] => [sg (num a 0 0 / 262144), sg (num a 0 0 / 4096 % 64)]
  | [a, b] => [sg (num a b 0 / 262144), sg (num a b 0 / 4096 % 64), sg (num a b 0 / 64 % 64)]
  | a :: b :: c :: r => sg (num a b c / 262144) :: sg (num a b c / 4096 % 64) :: sg (num a b c / 64 % 64) :: sg (num a b c % 64) :: rawT r
def pad (b : B) : Nat := (3 - b.length % 3) % 3
theorem pad_more (a b c : UInt8) (r : B) : pad (a :: b :: c :: r) = pad r := by unfold pad; simp only [List.length_cons]; omega
theorem raw_eq : ∀ b : B, raw b = rawT b ++ List.replicate (pad b) 61
  | [] => rfl
  | [a] => rfl
  | [a, b] => rfl
  | a :: b :: c :: r => by
    rw [pad_more, raw, rawT, raw_eq r]; rfl
theorem sg_ne : ∀ n, n < 64 → sg n ≠ 61 ∧ sg n ≠ 13 ∧ sg n ≠ 10 := by decide +kernel
theorem sg_of {n : Nat} (h : n < 64) {c : UInt8} (hc : c = sg n) : c ≠ 61 ∧ c ≠ 13 ∧ c ≠ 10 := hc ▸ sg_ne n h
theorem rawT_ne : ∀ (b : B) (c : UInt8), c ∈ rawT b → ∃ n, n < 64 ∧ c = sg n
  | [], c, h => by cases h
  | [a], c, h => by
    have h0 := num_lt a 0 0
    simp only [rawT, List.mem_cons, List.not_mem_nil, or_false] at h
    rcases h with h | h
    · exact ⟨_, by omega, h⟩
    · exact ⟨_, by omega, h⟩
  | [a, b], c, h => by
    have h0 := num_lt a b 0
    simp only [rawT, List.mem_cons, List.not_mem_nil, or_false] at h
    rcases h with h | h | h
    · exact ⟨_, by omega, h⟩
    · exact ⟨_, by omega, h⟩
    · exact ⟨_, by omega, h⟩
  | x :: y :: z :: r, c, h => by
    have h0 := num_lt x y z
    simp only [rawT, List.mem_cons] at h
    rcases h with h | h | h | h | h
    · exact ⟨_, by omega, h⟩
    · exact ⟨_, by omega, h⟩
    · exact ⟨_, by omega, h⟩
    · exact ⟨_, by omega, h⟩
    · exact rawT_ne r c h
theorem raw_sign {b : B} {c : UInt8} (h : c ∈ raw b) : c = 61 ∨ ∃ n, n < 64 ∧ c = sg n := by
  rw [raw_eq, List.mem_append] at h
  rcases h with h | h
  · exact Or.inr (rawT_ne b c h)
  · exact Or.inl (List.eq_of_mem_replicate h)
theorem raw_ne {b : B} {c : UInt8} (h : c ∈ raw b) : c ≠ 13 ∧ c ≠ 10 := by
  rcases raw_sign h with rfl | ⟨n, hn, rfl⟩
  · exact ⟨by decide, by decide⟩
  · exact (sg_ne n hn).2
theorem raw_len : ∀ b : B, (raw b).length = (b.length + 2) / 3 * 4
  | [] => rfl
  | [a] => by simp [raw]
  | [a, b] => by simp [raw]
  | a :: b :: c :: r => by
    rw [raw]
    simp only [List.length_cons, raw_len r]
    omega
theorem rawT_len (b : B) : (rawT b).length + pad b = (b.length + 2) / 3 * 4 := by
  rw [← raw_len, raw_eq]; simp
/-- of bytes by threes, and of more -/
theorem raw_app : ∀ (a b : B), a.length % 3 = 0 → raw (a ++ b) = raw a ++ raw b
  | [], b, _ => rfl
  | [x], b, h => by simp at h
  | [x, y], b, h => by simp at h
  | x :: y :: z :: r, b, h => by
    have h' : r.length % 3 = 0 := by simp only [List.length_cons] at h; omega
    show raw (x :: y :: z :: (r ++ b)) = _
    rw [raw, raw, raw_app r b h']; rfl
/-- the signs of the first three, and of the others -/
theorem raw_cut (b : B) : raw b = raw (b.take 3) ++ raw (b.drop 3) := by
  match b with
  | [] => rfl
  | [a] => rfl
  | [a, b] => rfl
  | a :: b :: c :: r => rfl
/-! what the program reads -/
/-- a sign's number -/
def dg (c : UInt8) : Int := Lib.indexByte sgS c
theorem dg_sg : ∀ n, n < 64 → dg (sg n) = (n : Int) := by decide +kernel
theorem dg_all : ∀ n, n < 256 → dg (UInt8.ofNat n) = -1 ∨ (0 ≤ dg (UInt8.ofNat n) ∧ dg (UInt8.ofNat n) < 64) := by decide +kernel
theorem dg_bd (c : UInt8) : dg c = -1 ∨ (0 ≤ dg c ∧ dg c < 64) := by
  have := dg_all c.toNat c.toNat_lt
  rwa [UInt8.ofNat_toNat] at this
/-- signs read, n of k bits being left -/
def rd : Nat → Nat → B → Option B
  | _, _, [] => some []
  | n, k, c :: s => if dg c < 0 then none
    else if k = 0 then rd (dg c).toNat 6 s
    else (rd ((64 * n + (dg c).toNat) % 2 ^ (k - 2)) (k - 2) s).map (UInt8.ofNat ((64 * n + (dg c).toNat) / 2 ^ (k - 2)) :: ·)
theorem rd_0 {n : Nat} {d : Nat} (h : d < 64) (s : B) : rd n 0 (sg d :: s) = rd d 6 s := by
  rw [rd, dg_sg d h, if_neg (by omega), if_pos rfl]; rfl
theorem rd_k {n k : Nat} {d : Nat} (h : d < 64) (s : B) (hk : k ≠ 0) : rd n k (sg d :: s) = (rd ((64 * n + d) % 2 ^ (k - 2)) (k - 2) s).map (UInt8.ofNat ((64 * n + d) / 2 ^ (k - 2)) :: ·) := by
  rw [rd, dg_sg d h, if_neg (by omega), if_neg hk]; rfl
theorem ofNat_eq {a : UInt8} {n : Nat} (h : n = a.toNat) : UInt8.ofNat n = a := by rw [h, UInt8.ofNat_toNat]
theorem rd_rawT : ∀ (b : B) (n : Nat), rd n 0 (rawT b) = some b
  | [], n => by rw [rawT, rd]
  | [a], n => by
    have h0 := num_lt a 0 0
    have ha := a.toNat_lt
    rw [rawT, rd_0 (by omega), rd_k (by omega) _ (by decide), rd]
    simp only [Option.map_some, Option.some.injEq, List.cons.injEq, and_true]
    refine ofNat_eq ?_
    have : num a 0 0 = 65536 * a.toNat := by unfold num; simp
    simp only [Nat.reduceSub, Nat.reducePow]; omega
  | [a, b], n => by
    have h0 := num_lt a b 0
    have ha := a.toNat_lt
    have hb := b.toNat_lt
    have : num a b 0 = 65536 * a.toNat + 256 * b.toNat := by unfold num; simp
    rw [rawT, rd_0 (by omega), rd_k (by omega) _ (by decide), rd_k (by omega) _ (by decide), rd]
    simp only [Option.map_some, Option.some.injEq, List.cons.injEq, and_true, Nat.reduceSub, Nat.reducePow]
    exact ⟨ofNat_eq (by omega), ofNat_eq (by omega)⟩
  | a :: b :: c :: r, n => by
    have h0 := num_lt a b c
    have ha := a.toNat_lt
    have hb := b.toNat_lt
    have hc := c.toNat_lt
    have : num a b c = 65536 * a.toNat + 256 * b.toNat + c.toNat := rfl
    rw [rawT, rd_0 (by omega), rd_k (by omega) _ (by decide), rd_k (by omega) _ (by decide), rd_k (by omega) _ (by decide)]
    simp only [Nat.reduceSub, Nat.reducePow]
    rw [rd_rawT r]
    simp only [Option.map_some, Option.some.injEq, List.cons.injEq, and_true]
    exact ⟨ofNat_eq (by omega), ofNat_eq (by omega), ofNat_eq (by omega)⟩
theorem trim_app (x : B) (p : Nat) (h : ∀ c ∈ x, c ≠ 61) : Lib.trimRightB (x ++ List.replicate p 61) 61 = x := by
  have hl : (x ++ List.replicate p (61 : UInt8)).length = x.length + p := by simp
  rw [Lib.trimRightB_take _ 61 x.length (by omega) (fun j b hj hb => ?_) (fun b hb hx => ?_), List.take_left]
  · rw [List.getElem?_append_right hj] at hb
    exact List.eq_of_mem_replicate (List.mem_of_getElem? hb)
  · rw [List.getElem?_append_left (by omega)] at hx
    exact h b (List.mem_of_getElem? hx)
theorem trim_raw (b : B) : Lib.trimRightB (raw b) 61 = rawT b := by
  rw [raw_eq]
  exact trim_app _ _ fun c hc => by
    obtain ⟨n, hn, rfl⟩ := rawT_ne b c hc
    exact (sg_ne n hn).1
/-- what the program's Bytes holds against the text -/
def cnd (s : B) : Option B := rd 0 0 (Lib.trimRightB s 61)
theorem cnd_raw (b : B) : cnd (raw b) = some b := by unfold cnd; rw [trim_raw, rd_rawT]
theorem raw_inj {a b : B} (h : raw a = raw b) : a = b := Option.some.inj ((cnd_raw a).symm.trans ((congrArg cnd h).trans (cnd_raw b)))
theorem rd_len : ∀ (s : B) (n k : Nat) (x : B), rd n k s = some x → x.length ≤ s.length
  | [], n, k, x, h => by rw [rd] at h; cases h; simp
  | c :: s, n, k, x, h => by
    rw [rd] at h
    split at h
    · cases h
    split at h
    · have := rd_len s _ _ _ h
      simp; omega
    · rw [Option.map_eq_some_iff] at h
      obtain ⟨y, hy, rfl⟩ := h
      have := rd_len s _ _ _ hy
      simp; omega
theorem trim_le (s : B) : (Lib.trimRightB s 61).length ≤ s.length := by
  unfold Lib.trimRightB
  have := (List.dropWhile_suffix (fun c : UInt8 => c == 61) (l := s.reverse)).length_le
  simpa using this
theorem cnd_len {s x : B} (h : cnd s = some x) : x.length ≤ s.length := Nat.le_trans (rd_len _ _ _ _ h) (trim_le s)
/-! what Bytes answers -/
open Classical in
/-- the bytes that are written so -/
noncomputable def byt (s : B) : Option B := if h : ∃ b, raw b = s then some h.choose else none
theorem byt_some {s b : B} (h : raw b = s) : byt s = some b := by
  have hx : ∃ b, raw b = s := ⟨b, h⟩
  unfold byt
  rw [dif_pos hx]
  exact congrArg some (raw_inj (hx.choose_spec.trans h.symm))
theorem byt_none {s : B} (h : ∀ b, raw b ≠ s) : byt s = none := by
  unfold byt
  rw [dif_neg (fun ⟨b, hb⟩ => h b hb)]
theorem byt_back {s b : B} (h : byt s = some b) : raw b = s := by
  unfold byt at h
  split at h
  · rename_i hx
    cases h
    exact hx.choose_spec
  · cases h
theorem byt_raw (b : B) : byt (raw b) = some b := byt_some rfl
theorem byt_len {s b : B} (h : byt s = some b) : b.length ≤ s.length := by
  have := byt_back h
  have h2 := raw_len b
  rw [this] at h2
  omega
theorem byt_cnd {s : B} (h : cnd s = none) : byt s = none := byt_none fun b hb => by
  have := cnd_raw b
  rw [hb, h] at this; cases this
theorem byt_not {s x : B} (h : cnd s = some x) (hx : raw x ≠ s) : byt s = none := byt_none fun b hb => by
  have := cnd_raw b
  rw [hb, h] at this
  cases this
  exact hx hb
/-! what the document reads -/
/-- a sign's number, or nought -/
def nm (c : UInt8) : Nat := if dg c < 0 then 0 else (dg c).toNat
theorem nm_sg {n : Nat} (h : n < 64) : nm (sg n) = n := by unfold nm; rw [dg_sg n h, if_neg (by omega)]; rfl
theorem nm_61 : nm 61 = 0 := by decide +kernel
theorem nm_lt (c : UInt8) : nm c < 64 := by
  unfold nm
  split
  · decide
  · rcases dg_bd c with h | h <;> omega
def num4 (w x y z : UInt8) : Nat := 64 * (64 * (64 * nm w + nm x) + nm y) + nm z
/-- four by four -/
def ch : B → B
  | w :: x :: y :: z :: r => UInt8.ofNat (num4 w x y z / 65536) :: UInt8.ofNat (num4 w x y z / 256 % 256) :: UInt8.ofNat (num4 w x y z % 256) :: ch r
  | _ => []
theorem ch_nil : ch [] = [] := rfl
theorem ch_raw : ∀ b : B, ch (raw b) = b ++ List.replicate (pad b) 0
  | [] => rfl
  | [a] => by
    have h0 := num_lt a 0 0
    have ha := a.toNat_lt
    have : num a 0 0 = 65536 * a.toNat := by unfold num; simp
    rw [raw, ch, num4, nm_sg (by omega), nm_sg (by omega), nm_61, ch_nil]
    rw [show UInt8.ofNat ((64 * (64 * (64 * (num a 0 0 / 262144) + num a 0 0 / 4096 % 64) + 0) + 0) / 65536) = a from ofNat_eq (by omega)]
    rw [show (64 * (64 * (64 * (num a 0 0 / 262144) + num a 0 0 / 4096 % 64) + 0) + 0) / 256 % 256 = 0 by omega, show (64 * (64 * (64 * (num a 0 0 / 262144) + num a 0 0 / 4096 % 64) + 0) + 0) % 256 = 0 by omega]
    rfl
  | [a, b] => by
    have h0 := num_lt a b 0
    have ha := a.toNat_lt
    have hb := b.toNat_lt
    have : num a b 0 = 65536 * a.toNat + 256 * b.toNat := by unfold num; simp
    rw [raw, ch, num4, nm_sg (by omega), nm_sg (by omega), nm_sg (by omega), nm_61, ch_nil]
    have e : 64 * (64 * (64 * (num a b 0 / 262144) + num a b 0 / 4096 % 64) + num a b 0 / 64 % 64) + 0 = num a b 0 := by omega
    rw [e, show UInt8.ofNat (num a b 0 / 65536) = a from ofNat_eq (by omega), show UInt8.ofNat (num a b 0 / 256 % 256) = b from ofNat_eq (by omega), show num a b 0 % 256 = 0 by omega]
    rfl
  | a :: b :: c :: r => by
    have h0 := num_lt a b c
    have ha := a.toNat_lt
    have hb := b.toNat_lt
    have hc := c.toNat_lt
    have : num a b c = 65536 * a.toNat + 256 * b.toNat + c.toNat := rfl
    rw [raw, ch, num4, nm_sg (by omega), nm_sg (by omega), nm_sg (by omega), nm_sg (by omega), ch_raw r, pad_more]
    have e : 64 * (64 * (64 * (num a b c / 262144) + num a b c / 4096 % 64) + num a b c / 64 % 64) + num a b c % 64 = num a b c := by omega
    rw [e, show UInt8.ofNat (num a b c / 65536) = a from ofNat_eq (by omega), show UInt8.ofNat (num a b c / 256 % 256) = b from ofNat_eq (by omega), show UInt8.ofNat (num a b c % 256) = c from ofNat_eq (by omega)]
    rfl
/-- how long -/
theorem ch_len : ∀ s : B, (ch s).length = s.length / 4 * 3
  | [] => rfl
  | [a] => by simp [ch]
  | [a, b] => by simp [ch]
  | [a, b, c] => by simp [ch]
  | w :: x :: y :: z :: r => by
    rw [ch]
    simp only [List.length_cons, ch_len r]
    omega
/-- does it stand k-th from behind -/
def isP (s : B) (k : Nat) : Bool := decide (s[s.length - k]? = some 61)
def pds (s : B) : Nat := (if isP s 1 = true then 1 else 0) + (if isP s 2 = true then 1 else 0)
theorem isP_raw {b : B} (h : b ≠ []) : isP (raw b) 1 = decide (1 ≤ pad b) ∧ isP (raw b) 2 = decide (2 ≤ pad b) := by
  have hl := rawT_len b
  have hb := List.length_pos_iff.2 h
  have hp : pad b < 3 := Nat.mod_lt _ (by decide)
  have hpd : pad b = (3 - b.length % 3) % 3 := rfl
  have hr : (raw b).length = (rawT b).length + pad b := by rw [raw_eq]; simp
  have key : ∀ k, 1 ≤ k → k ≤ 2 → isP (raw b) k = decide (k ≤ pad b) := fun k h1 h2 => by
    unfold isP
    refine decide_eq_decide.2 ?_
    rw [hr]
    constructor
    · intro e
      by_cases hk : k ≤ pad b
      · exact hk
      · rw [raw_eq, List.getElem?_append_left (by omega)] at e
        obtain ⟨n, hn, hc⟩ := rawT_ne b 61 (List.mem_of_getElem? e)
        exact absurd hc.symm (sg_ne n hn).1
    · intro hk
      rw [raw_eq, List.getElem?_append_right (by omega), List.getElem?_replicate, if_pos (by omega)]
  exact ⟨key 1 (by decide) (by decide), key 2 (by decide) (by decide)⟩
theorem pds_raw (b : B) : pds (raw b) = pad b := by
  by_cases h : b = []
  · subst h; decide
  obtain ⟨h1, h2⟩ := isP_raw h
  have hp : pad b < 3 := Nat.mod_lt _ (by decide)
  unfold pds
  rw [h1, h2]
  simp only [decide_eq_true_eq]
  split <;> split <;> omega
/-- what the document's Bytes holds against the text -/
def cndR (s : B) : B := (ch s).take ((ch s).length - pds s)
theorem cndR_raw (b : B) : cndR (raw b) = b := by
  unfold cndR
  rw [pds_raw, ch_raw]
  simp
theorem byt_R {s : B} (h : raw (cndR s) ≠ s) : byt s = none := byt_none fun b hb => by
  rw [← hb, cndR_raw] at h
  exact h rfl
theorem byt_4 {s : B} (h : s.length % 4 ≠ 0) : byt s = none := byt_none fun b hb => by
  have := raw_len b
  rw [hb] at this
  omega
/-! lines -/
/-- signs in lines -/
def lin (s : B) : B := if h : s = [] then [] else s.take 76 ++ ([13, 10] ++ lin (s.drop 76))
termination_by s.length
decreasing_by
  have := List.length_pos_iff.2 h
  simp; omega
theorem lin_nil : lin [] = [] := by rw [lin]; simp
theorem lin_more {s : B} (h : s ≠ []) : lin s = s.take 76 ++ ([13, 10] ++ lin (s.drop 76)) := by rw [lin, dif_neg h]
def enc (b : B) : B := lin (raw b)
/-- sign by sign, of which the line has k already -/
def dl : Nat → B → B
  | _, [] => []
  | k, c :: s => if k = 75 ∨ s = [] then c :: 13 :: 10 :: dl 0 s else c :: dl (k + 1) s
theorem dl_line : ∀ (s : B) (k : Nat), k ≤ 75 → s ≠ [] → dl k s = s.take (76 - k) ++ ([13, 10] ++ dl 0 (s.drop (76 - k)))
  | [], k, hk, h => absurd rfl h
  | c :: s, k, hk, h => by
    rw [dl]
    by_cases h1 : k = 75
    · subst h1
      rw [if_pos (Or.inl rfl)]
      rfl
    by_cases h2 : s = []
    · subst h2
      rw [if_pos (Or.inr rfl), show 76 - k = (75 - k) + 1 by omega]
      simp [dl]
    · rw [if_neg (by simp [h1, h2]), dl_line s (k + 1) (by omega) h2, show 76 - k = (76 - (k + 1)) + 1 by omega]
      rfl
theorem dl_lin : ∀ (n : Nat) (s : B), s.length ≤ n → dl 0 s = lin s
  | 0, s, hn => by
    obtain rfl : s = [] := List.length_eq_zero_iff.1 (by omega)
    rw [lin_nil, dl]
  | n + 1, s, hn => by
    by_cases h : s = []
    · subst h; rw [lin_nil, dl]
    have := List.length_pos_iff.2 h
    rw [dl_line s 0 (by decide) h, lin_more h, dl_lin n _ (by simp; omega)]
theorem dl_enc (b : B) : dl 0 (raw b) = enc b := dl_lin _ _ (Nat.le_refl _)
theorem lin_len : ∀ (n : Nat) (s : B), s.length ≤ n → (lin s).length = s.length + 2 * ((s.length + 75) / 76)
  | 0, s, hn => by
    obtain rfl : s = [] := List.length_eq_zero_iff.1 (by omega)
    rw [lin_nil]; rfl
  | n + 1, s, hn => by
    by_cases h : s = []
    · subst h; rw [lin_nil]; rfl
    have := List.length_pos_iff.2 h
    have hd : (s.drop 76).length = s.length - 76 := by simp
    rw [lin_more h]
    simp only [List.length_append, lin_len n _ (show (s.drop 76).length ≤ n by omega), hd, List.length_take, List.length_cons, List.length_nil]
    omega
theorem enc_len (b : B) : (enc b).length = (b.length + 2) / 3 * 4 + 2 * (((b.length + 2) / 3 * 4 + 75) / 76) := by
  unfold enc
  rw [lin_len _ _ (Nat.le_refl _), raw_len]
theorem enc_le (b : B) : (enc b).length ≤ 2 * b.length + 8 := by rw [enc_len]; omega
theorem le_enc (b : B) : b.length ≤ (enc b).length := by rw [enc_len]; omega
/-- without line ends, byte by byte -/
def flt (s : B) : B := s.filter fun c => decide (c ≠ 13) && decide (c ≠ 10)
theorem flt_app (a b : B) : flt (a ++ b) = flt a ++ flt b := by simp [flt]
theorem flt_all {s : B} (h : ∀ c ∈ s, c ≠ 13 ∧ c ≠ 10) : flt s = s := by
  unfold flt
  rw [List.filter_eq_self]
  intro c hc
  simp [h c hc]
theorem flt_lin : ∀ (n : Nat) (s : B), s.length ≤ n → (∀ c ∈ s, c ≠ 13 ∧ c ≠ 10) → flt (lin s) = s
  | 0, s, hn, _ => by
    obtain rfl : s = [] := List.length_eq_zero_iff.1 (by omega)
    rw [lin_nil]; rfl
  | n + 1, s, hn, hs => by
    by_cases h : s = []
    · subst h; rw [lin_nil]; rfl
    have := List.length_pos_iff.2 h
    rw [lin_more h, flt_app, flt_app, flt_all (fun c hc => hs c (List.mem_of_mem_take hc)), flt_lin n _ (by simp; omega) (fun c hc => hs c (List.mem_of_mem_drop hc)), show flt [13, 10] = [] from rfl, List.nil_append, List.take_append_drop]
theorem flt_enc (b : B) : flt (enc b) = raw b := flt_lin _ _ (Nat.le_refl _) fun _ h => raw_ne h
/-- without line ends, as the library does it -/
abbrev rpl (s : B) : B := Lib.replaceAll s [13, 10] []
theorem pre_ne {c : UInt8} {s : B} (h : c ≠ 13) : List.isPrefixOf [13, 10] (c :: s) = false := by
  simp only [List.isPrefixOf]
  rw [show ((13 : UInt8) == c) = false from beq_eq_false_iff_ne.2 (Ne.symm h)]
  rfl
theorem idx_app : ∀ (t s : B), (∀ c ∈ t, c ≠ 13) → Lib.index (t ++ (13 :: 10 :: s)) [13, 10] = t.length
  | [], s, _ => by
    show Lib.index (13 :: 10 :: s) [13, 10] = 0
    unfold Lib.index
    rw [if_pos (by simp [List.isPrefixOf])]
  | c :: t, s, h => by
    show Lib.index (c :: (t ++ (13 :: 10 :: s))) [13, 10] = _
    unfold Lib.index
    rw [pre_ne (h c (by simp)), idx_app t s (fun d hd => h d (by simp [hd]))]
    have : ((t.length : Int) == -1) = false := by rw [beq_eq_false_iff_ne]; omega
    rw [this]
    simp
theorem cntF_nil (f : Nat) : Lib.countFrom [13, 10] f [] = 0 := by
  cases f with
  | zero => rfl
  | succ f => rfl
theorem rplK : ∀ (n : Nat) (s : B), s.length ≤ n → (∀ c ∈ s, c ≠ 13) → ∀ f, (lin s).length < f → Lib.replaceK [13, 10] [] (Lib.countFrom [13, 10] f (lin s)) (lin s) = s
  | 0, s, hn, _, f, hf => by
    obtain rfl : s = [] := List.length_eq_zero_iff.1 (by omega)
    rw [lin_nil, cntF_nil]; rfl
  | n + 1, s, hn, hs, f, hf => by
    by_cases h : s = []
    · subst h; rw [lin_nil, cntF_nil]; rfl
    have hpos := List.length_pos_iff.2 h
    have hL := lin_more h
    rw [hL] at hf ⊢
    have hi := idx_app (s.take 76) (lin (s.drop 76)) (fun c hc => hs c (List.mem_of_mem_take hc))
    have hd : (s.take 76 ++ (13 :: 10 :: lin (s.drop 76))).drop ((s.take 76).length + 2) = lin (s.drop 76) := by
      rw [List.drop_append]; simp
    cases f with
    | zero => simp at hf
    | succ f =>
      show Lib.replaceK [13, 10] [] (Lib.countFrom [13, 10] (f + 1) (s.take 76 ++ (13 :: 10 :: lin (s.drop 76)))) (s.take 76 ++ (13 :: 10 :: lin (s.drop 76))) = s
      have hc : Lib.countFrom [13, 10] (f + 1) (s.take 76 ++ (13 :: 10 :: lin (s.drop 76))) = Lib.countFrom [13, 10] f (lin (s.drop 76)) + 1 := by
        rw [Lib.countFrom, hi, if_neg (by rw [beq_iff_eq]; omega), Int.toNat_natCast, show ([13, 10] : B).length = 2 from rfl, hd]
        omega
      rw [hc, Lib.replaceK_hit _ _ _ _ _ hi, show ([13, 10] : B).length = 2 from rfl, hd, rplK n _ (by simp; omega) (fun c hc => hs c (List.mem_of_mem_drop hc)) f (by simp at hf; omega), List.append_nil, List.take_left, List.take_append_drop]
theorem rpl_enc (b : B) : rpl (enc b) = raw b := by
  unfold rpl Lib.replaceAll Lib.replace Lib.replaceNum Lib.count
  rw [if_neg (by decide), if_pos (Or.inl (by decide))]
  exact rplK _ _ (Nat.le_refl _) (fun c h => (raw_ne h).1) _ (Nat.lt_succ_self _)
theorem rplK_len : ∀ (k : Nat) (s : B), (Lib.replaceK [13, 10] [] k s).length ≤ s.length
  | 0, s => Nat.le_refl _
  | k + 1, s => by
    rw [Lib.replaceK]
    split
    · exact Nat.le_refl _
    · have h1 := rplK_len k (s.drop ((Lib.index s [13, 10]).toNat + ([13, 10] : B).length))
      simp only [List.append_nil, List.length_append, List.length_take, List.length_drop] at h1 ⊢
      omega
theorem rpl_len (s : B) : (rpl s).length ≤ s.length := by
  unfold rpl Lib.replaceAll Lib.replace
  split
  · exact Nat.le_refl _
  · exact rplK_len _ _
/-! what Decode answers -/
open Classical in
/-- the bytes whose lines these are -/
noncomputable def dec (s : B) : Option B := if h : ∃ b, enc b = s then some h.choose else none
theorem enc_inj {a b : B} (h : enc a = enc b) : a = b := raw_inj ((flt_enc a).symm.trans ((congrArg flt h).trans (flt_enc b)))
theorem dec_some {s b : B} (h : enc b = s) : dec s = some b := by
  have hx : ∃ b, enc b = s := ⟨b, h⟩
  unfold dec
  rw [dif_pos hx]
  exact congrArg some (enc_inj (hx.choose_spec.trans h.symm))
theorem dec_none {s : B} (h : ∀ b, enc b ≠ s) : dec s = none := by
  unfold dec
  rw [dif_neg (fun ⟨b, hb⟩ => h b hb)]
theorem dec_back {s b : B} (h : dec s = some b) : enc b = s := by
  unfold dec at h
  split at h
  · rename_i hx
    cases h
    exact hx.choose_spec
  · cases h
theorem dec_enc (b : B) : dec (enc b) = some b := dec_some rfl
/-- either way of taking line ends away serves -/
theorem dec_byt {f : B → B} (hf : ∀ b, f (enc b) = raw b) {s : B} (h : byt (f s) = none) : dec s = none := dec_none fun b hb => by
  rw [← hb, hf, byt_raw] at h
  cases h
theorem dec_not {f : B → B} (hf : ∀ b, f (enc b) = raw b) {s x : B} (h : byt (f s) = some x) (hx : enc x ≠ s) : dec s = none := dec_none fun b hb => by
  rw [← hb, hf, byt_raw] at h
  cases h
  exact hx hb
/-- the chapter's examples -/
theorem ex_a : raw [97] = [89, 81, 61, 61] := by decide +kernel
theorem ex_abc : raw [97, 98, 99] = [89, 87, 74, 106] := by decide +kernel
theorem ex_enc : enc [97, 98, 99] = [89, 87, 74, 106, 13, 10] := by
  unfold enc
  rw [ex_abc, lin_more (by decide), show ([89, 87, 74, 106] : B).drop 76 = [] from rfl, lin_nil]; rfl
end Go.Proofs.YtdhhlcgmkkpldaaGreatDoor.Bx
