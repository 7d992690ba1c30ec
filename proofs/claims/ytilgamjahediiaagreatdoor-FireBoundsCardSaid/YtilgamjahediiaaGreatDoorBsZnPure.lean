/- Plain mathematics of zones: which may be. -/
import Derived.RowKit
namespace Go.Proofs.YtilgamjahediiaaGreatDoor.Zn
def ltr (c : UInt8) : Bool := decide (65 ≤ c.toNat ∧ c.toNat ≤ 90 ∨ 97 ≤ c.toNat ∧ c.toNat ≤ 122)
def dgt (c : UInt8) : Bool := decide (48 ≤ c.toNat ∧ c.toNat ≤ 57)
def nmb (c : UInt8) : Bool := decide (65 ≤ c.toNat ∧ c.toNat ≤ 90 ∨ 97 ≤ c.toNat ∧ c.toNat ≤ 122 ∨ 48 ≤ c.toNat ∧ c.toNat ≤ 57 ∨ c.toNat = 43 ∨ c.toNat = 45)
structure Ru where
  k : Int
  m : Int
  w : Int
  d : Int
  a : Int
structure Zo where
  std : List UInt8
  off : Int
  has : Bool
  dst : List UInt8
  ahead : Int
  fr : Ru
  to : Ru
def ru0 : Ru := ⟨0, 0, 0, 0, 0⟩
def mayN (l : List UInt8) : Bool := decide (3 ≤ l.length ∧ l.length ≤ 10) && l.all nmb
def mayR (r : Ru) : Bool := decide (-604799 ≤ r.a ∧ r.a ≤ 604799 ∧ (r.k = 0 ∧ 1 ≤ r.d ∧ r.d ≤ 365 ∧ r.m = 0 ∧ r.w = 0 ∨ r.k = 1 ∧ 0 ≤ r.d ∧ r.d ≤ 365 ∧ r.m = 0 ∧ r.w = 0 ∨ r.k = 2 ∧ 1 ≤ r.m ∧ r.m ≤ 12 ∧ 1 ≤ r.w ∧ r.w ≤ 5 ∧ 0 ≤ r.d ∧ r.d ≤ 6))
def offB (n : Int) : Bool := decide (-89999 ≤ n ∧ n ≤ 89999)
def mayZ (z : Zo) : Bool := mayN z.std && offB z.off && (if z.has then mayN z.dst && (decide (z.ahead = z.off + 3600) || offB z.ahead) && mayR z.fr && mayR z.to else decide (z.dst = [] ∧ z.ahead = 0 ∧ z.fr.k = 0 ∧ z.fr.m = 0 ∧ z.fr.w = 0 ∧ z.fr.d = 0 ∧ z.fr.a = 0 ∧ z.to.k = 0 ∧ z.to.m = 0 ∧ z.to.w = 0 ∧ z.to.d = 0 ∧ z.to.a = 0))
def d2 (n : Nat) : List UInt8 := [UInt8.ofNat (48 + n / 10), UInt8.ofNat (48 + n % 10)]
def stp (p : UInt8 → Bool) : List UInt8 → Bool
  | [] => true
  | c :: _ => !p c
theorem tw {p : UInt8 → Bool} {a b : List UInt8} (ha : a.all p = true) (hb : stp p b = true) : (a ++ b).takeWhile p = a ∧ (a ++ b).dropWhile p = b := by
  have hb' : b.takeWhile p = [] ∧ b.dropWhile p = b := by
    cases b with
    | nil => simp
    | cons c r => simp [stp] at hb; simp [hb]
  have h : ∀ x ∈ a, p x = true := by simpa using ha
  rw [List.takeWhile_append_of_pos h, List.dropWhile_append_of_pos h, hb'.1, hb'.2]
  simp
theorem off_bd {n : Int} (h : offB n = true) : -89999 ≤ n ∧ n ≤ 89999 := by simpa [offB] using h
end Go.Proofs.YtilgamjahediiaaGreatDoor.Zn
