/- Several texts of this seat, one behind the other. -/
import Derived.Test.YtflhmgnhjnaiiaaGreatDoorStA
import Derived.Recover
import Derived.RegionTactic
import Derived.ChangeAlike
set_option linter.unusedSimpArgs false
set_option linter.unusedVariables false
/- Contracts of package stamp: the reader's fraction, and how far its clock is ahead. -/
namespace Go.Proofs.YtflhmgnhjnaiiaaGreatDoor.Sm
open Go.ChangeShapes Go.WideShapes Go.ChangeAt Go.RowKit
open Civ
def digs : List UInt8 := [48, 49, 50, 51, 52, 53, 54, 55, 56, 57]
/-- a part of a second, if there is one -/
def rfrac : List UInt8 → Option (List UInt8)
  | [] => some []
  | b :: r => if b = 46 then (rnum 1 0 r).map (fun p => Lib.trimLeftS p.2 digs) else some (b :: r)
def FracPost (o : Option (List UInt8)) (bk : Nat) (w : World) (e : Ending) (w' : World) : Prop :=
  match o with
  | none => e = .panicked [{ v := faultV, recovered := false }] ∧ Only bk w w'
  | some r => e = .returned (.tuple #[]) ∧ Only bk w w' ∧ w'.cell? ⟨bk, 0, none⟩ = some (.string ⟨r.toArray⟩)
theorem Only.of_kept {bk : Nat} {w w' : World} (h : Kept w w') (hb : bk < w.heap.size) : Only bk w w' :=
  ⟨h.os, h.output, h.size, fun k hk _ => h.block k hk, h.frozen hb, h.tape⟩
theorem prefix_any (l : List UInt8) (w : World) :
    Calls Tryz.prog 80 #[.string ⟨l.toArray⟩, .string ⟨#[46]⟩] w fun e w' => e = .returned (.bool (Lib.hasPrefix l [46])) ∧ w = w' := by
  refine (Tryz.strings_HasPrefix _ _ _).mono ?_
  rintro e w1 ⟨rfl, rfl⟩
  exact ⟨rfl, rfl⟩
theorem trim_any (l : List UInt8) (w : World) :
    Calls Tryz.prog 159 #[.string ⟨l.toArray⟩, .string ⟨#[48, 49, 50, 51, 52, 53, 54, 55, 56, 57]⟩] w fun e w' => e = .returned (.string ⟨(Lib.trimLeftS l digs).toArray⟩) ∧ Kept w w' := by
  refine (Tryz.strings_TrimLeft_laid ⟨l.toArray⟩ ⟨#[48, 49, 50, 51, 52, 53, 54, 55, 56, 57]⟩ w (by decide) (Go.Proofs.ascii_of_all (by decide))).mono ?_
  rintro e w1 ⟨rfl, hb⟩
  exact ⟨rfl, Kept.of_below hb⟩
set_option maxHeartbeats 1000000 in
theorem frac_any (l : List UInt8) (bk : Nat) (w : World) (hb : bk < w.heap.size) (hc : w.cell? ⟨bk, 0, none⟩ = some (.string ⟨l.toArray⟩)) (hf : w.frozen? ⟨bk, 0, none⟩ = false) :
    Calls Tryz.prog 153 #[.pointer (some ⟨bk, 0, none⟩)] w (FracPost (rfrac l) bk w) := by
  have HB := Lib.hid hb; clear hb
  by_cases h : ∃ r, l = 46 :: r
  · obtain ⟨r, rfl⟩ := h
    have hp : Lib.hasPrefix (46 :: r) [46] = true := by simp [Lib.hasPrefix, List.isPrefixOf]
    go_enter Tryz.func153, Tryz.ntmps153
    go_wp2_with fail
    refine (prefix_any _ _).mono ?_
    rintro e w1 ⟨rfl, rfl⟩
    rw [hp]
    go_wp2_with fail
    refine (sign_yes [46] 46 r bk _ hc hf rfl).mono ?_
    rintro e w1 ⟨rfl, o1, c1⟩
    have f1 := o1.frozen.trans hf
    go_wp2_with fail
    refine (num_1 r bk _ c1 f1).mono ?_
    intro e w2 hp2
    rcases hr : rnum 1 0 r with _ | ⟨v, r2⟩
    · rw [hr] at hp2
      obtain ⟨rfl, ho⟩ := hp2
      refine ⟨rfl, ?_⟩
      show FracPost (rfrac (46 :: r)) bk w _ _
      rw [show rfrac (46 :: r) = none by simp [rfrac, hr]]
      exact ⟨rfl, o1.trans ho⟩
    rw [hr] at hp2
    obtain ⟨rfl, o2, c2⟩ := hp2
    have f2 := o2.frozen.trans f1
    have HR := Lib.hid hr; clear hr
    go_wp2_with fail
    refine (trim_any r2 _).mono ?_
    rintro e w3 ⟨rfl, k3⟩
    have hb2 : bk < w2.heap.size := Nat.lt_of_lt_of_le HB.out (Nat.le_trans o1.size o2.size)
    have c3 := (k3.cell (a := ⟨bk, 0, none⟩) hb2).trans c2
    have f3 := (k3.frozen (a := ⟨bk, 0, none⟩) hb2).trans f2
    have O3 := Lib.hid ((o1.trans o2).trans (Only.of_kept k3 hb2))
    clear k3 hb2
    go_wp2
    go_end0
    rw [show rfrac (46 :: r) = some (Lib.trimLeftS r2 digs) by simp [rfrac, HR.out]]
    exact ⟨rfl, O3.out.trans (Only.set _ _ _), World.cell?_setCell_same _ _ _ c3⟩
  · have hp : Lib.hasPrefix l [46] = false := by
      cases l with
      | nil => rfl
      | cons b r => simp [Lib.hasPrefix, List.isPrefixOf]; exact fun hb => h ⟨r, by rw [← hb]⟩
    have hr := Lib.hid (show rfrac l = some l by
      cases l with
      | nil => rfl
      | cons b r => rw [rfrac, if_neg (fun hb => h ⟨r, by rw [hb]⟩)])
    clear h
    go_enter Tryz.func153, Tryz.ntmps153
    go_wp2_with fail
    refine (prefix_any _ _).mono ?_
    rintro e w1 ⟨rfl, rfl⟩
    rw [hp]
    go_wp2
    first | go_end0 | refine bodyPost_ret (results_none rfl _ _ _) rfl ?_
    rw [hr.out]
    exact ⟨rfl, Only.refl _ _, hc⟩

/-- what stands behind the seconds -/
def rzone (l : List UInt8) : Option (Int × List UInt8) :=
  (rsign [90, 122, 43, 45] l).bind fun a1 => if a1.1 = 90 ∨ a1.1 = 122 then some (0, a1.2) else
    (rnum 2 0 a1.2).bind fun a2 => (rsign [58] a2.2).bind fun a3 => (rnum 2 0 a3.2).bind fun a4 =>
      if tmB a2.1 a4.1 0 = true then some (if a1.1 = 45 then -(a2.1 * 3600 + a4.1 * 60) else a2.1 * 3600 + a4.1 * 60, a4.2) else none
theorem u8_eq (c : UInt8) (k : Nat) (hk : k < 256) : ((c.toNat : Int) = (k : Int)) ↔ c = UInt8.ofNat k := by
  constructor
  · intro h
    have h' : c.toNat = k := by omega
    rw [← h']; simp
  · rintro rfl
    simp; omega
set_option maxHeartbeats 2000000 in
theorem ahead_any (l : List UInt8) (bk : Nat) (w : World) (hc : w.cell? ⟨bk, 0, none⟩ = some (.string ⟨l.toArray⟩)) (hf : w.frozen? ⟨bk, 0, none⟩ = false) :
    Calls Tryz.prog 154 #[.pointer (some ⟨bk, 0, none⟩)] w (NumPost (rzone l) bk w) := by
  go_enter Tryz.func154, Tryz.ntmps154
  go_wp2_with fail
  refine (sign_any [90, 122, 43, 45] l bk _ hc hf).mono ?_
  intro e w1 hp
  rcases h1 : rsign [90, 122, 43, 45] l with _ | ⟨c, l1⟩
  · rw [h1] at hp
    obtain ⟨rfl, ho⟩ := hp
    refine ⟨rfl, ?_⟩
    show NumPost (rzone l) bk w _ _
    rw [show rzone l = none by simp only [rzone, h1, Option.bind_none]]
    exact ⟨rfl, ho⟩
  rw [h1] at hp
  obtain ⟨rfl, o1, c1⟩ := hp
  have f1 := o1.frozen.trans hf
  have H1 := Lib.hid h1; clear h1
  by_cases hz : c = 90 ∨ c = 122
  · have HZ := Lib.hid (show rzone l = some (0, l1) by simp only [rzone, H1.out, Option.bind_some, if_pos hz])
    rcases hz with rfl | rfl
    · go_wp2
      go_ret
      rw [HZ.out]
      exact ⟨rfl, o1, c1⟩
    · go_wp2
      go_ret
      rw [HZ.out]
      exact ⟨rfl, o1, c1⟩
  · have z1 : ¬ (c.toNat : Int) = 90 := fun h => hz (Or.inl ((u8_eq c 90 (by omega)).1 h))
    have z2 : ¬ (c.toNat : Int) = 122 := fun h => hz (Or.inr ((u8_eq c 122 (by omega)).1 h))
    have z1' : ((c.toNat : Int) == 90) = false := by simpa using z1
    have z2' : ((c.toNat : Int) == 122) = false := by simpa using z2
    clear z1 z2
    have HZ := Lib.hid hz; clear hz
    go_wp2_with fail
    refine (num_2 l1 bk _ c1 f1).mono ?_
    intro e w2 hp
    rcases h2 : rnum 2 0 l1 with _ | ⟨h, l2⟩
    · rw [h2] at hp
      obtain ⟨rfl, ho⟩ := hp
      refine ⟨rfl, ?_⟩
      show NumPost (rzone l) bk w _ _
      rw [show rzone l = none by simp only [rzone, H1.out, h2, Option.bind_none, Option.bind_some, if_neg HZ.out]]
      exact ⟨rfl, o1.trans ho⟩
    rw [h2] at hp
    obtain ⟨rfl, o2, c2⟩ := hp
    have f2 := o2.frozen.trans f1
    have H2 := Lib.hid h2; clear h2
    go_wp2_with fail
    refine (sign_any [58] l2 bk _ c2 f2).mono ?_
    intro e w3 hp
    rcases h3 : rsign [58] l2 with _ | ⟨b3, l3⟩
    · rw [h3] at hp
      obtain ⟨rfl, ho⟩ := hp
      refine ⟨rfl, ?_⟩
      show NumPost (rzone l) bk w _ _
      rw [show rzone l = none by simp only [rzone, H1.out, H2.out, h3, Option.bind_none, Option.bind_some, if_neg HZ.out]]
      exact ⟨rfl, (o1.trans o2).trans ho⟩
    rw [h3] at hp
    obtain ⟨rfl, o3, c3⟩ := hp
    have f3 := o3.frozen.trans f2
    have H3 := Lib.hid h3; clear h3
    go_wp2_with fail
    refine (num_2 l3 bk _ c3 f3).mono ?_
    intro e w4 hp
    rcases h4 : rnum 2 0 l3 with _ | ⟨m, l4⟩
    · rw [h4] at hp
      obtain ⟨rfl, ho⟩ := hp
      refine ⟨rfl, ?_⟩
      show NumPost (rzone l) bk w _ _
      rw [show rzone l = none by simp only [rzone, H1.out, H2.out, H3.out, h4, Option.bind_none, Option.bind_some, if_neg HZ.out]]
      exact ⟨rfl, ((o1.trans o2).trans o3).trans ho⟩
    rw [h4] at hp
    obtain ⟨rfl, o4, c4⟩ := hp
    have H4 := Lib.hid h4; clear h4
    have O4 := Lib.hid (((o1.trans o2).trans o3).trans o4)
    clear o1 o2 o3 o4 c1 c2 c3 f1 f2 f3
    go_wp2_with fail
    refine (isTime_any h m 0 _).mono ?_
    rintro e w5 ⟨rfl, rfl⟩
    cases ht : tmB h m 0 with
    | false =>
      go_wp2
      refine ⟨rfl, ?_⟩
      show NumPost (rzone l) bk w _ _
      rw [show rzone l = none by simp only [rzone, H1.out, H2.out, H3.out, H4.out, Option.bind_some, if_neg HZ.out, ht, Bool.false_eq_true, if_false]]
      exact ⟨rfl, O4.out⟩
    | true =>
      obtain ⟨t1, t2, t3, t4, _, _⟩ := tm_bd ht
      by_cases h45 : c = 45
      · have e45 : ((c.toNat : Int) == 45) = true := by rw [h45]; decide
        have HR := Lib.hid (show rzone l = some (-(h * 3600 + m * 60), l4) by simp only [rzone, H1.out, H2.out, H3.out, H4.out, Option.bind_some, if_neg HZ.out, ht, if_true, if_pos h45])
        clear ht h45
        go_wp2
        go_ret
        rw [HR.out]
        exact ⟨rfl, O4.out, c4⟩
      · have e45 : ((c.toNat : Int) == 45) = false := by simpa using fun hh => h45 ((u8_eq c 45 (by omega)).1 hh)
        have HR := Lib.hid (show rzone l = some (h * 3600 + m * 60, l4) by simp only [rzone, H1.out, H2.out, H3.out, H4.out, Option.bind_some, if_neg HZ.out, ht, if_true, if_neg h45])
        clear ht h45
        go_wp2
        go_ret
        rw [HR.out]
        exact ⟨rfl, O4.out, c4⟩
end Go.Proofs.YtflhmgnhjnaiiaaGreatDoor.Sm
/- Contracts of package stamp: the deferred function of a reading. -/
namespace Go.Proofs.YtflhmgnhjnaiiaaGreatDoor.Sm
open Go.ChangeShapes Go.WideShapes Go.ChangeAt Go.RowKit
open Civ
theorem ta_nil (w : World) : (Instr.typeAssert .nilIface 20 187 true).run Tryz.prog w = .ok (.tuple #[.agg #[.int .i64 0], .bool false]) w := by kernel_rfl
theorem ta_hit (v : Value) (w : World) : (Instr.typeAssert (.iface 187 v) 20 187 true).run Tryz.prog w = .ok (.tuple #[v, .bool true]) w := by kernel_rfl
/-- below a block's number all is as it was -/
structure KeptTo (n : Nat) (w w' : World) : Prop where
  os : w'.os = w.os
  output : w'.output = w.output
  size : w.heap.size ≤ w'.heap.size
  block : ∀ k, k < n → w'.heap[k]? = w.heap[k]?
  tape : w'.tape = w.tape
theorem KeptTo.refl (n : Nat) (w : World) : KeptTo n w w := ⟨rfl, rfl, Nat.le_refl _, fun _ _ => rfl, rfl⟩
theorem KeptTo.trans {n : Nat} {a b c : World} (h : KeptTo n a b) (k : KeptTo n b c) : KeptTo n a c :=
  ⟨k.os.trans h.os, k.output.trans h.output, Nat.le_trans h.size k.size, fun i hi => (k.block i hi).trans (h.block i hi), k.tape.trans h.tape⟩
theorem KeptTo.of_only {n bk : Nat} {w w' : World} (h : Only bk w w') (hn : n ≤ bk) (hw : n ≤ w.heap.size) : KeptTo n w w' := ⟨h.os, h.output, h.size, fun k hk => h.block k (by omega) (by omega), h.tape⟩
theorem KeptTo.drew {n : Nat} {w w' : World} (h : KeptTo n w w') : KeptTo n w w'.drew := ⟨h.os, h.output, h.size, h.block, h.tape⟩
theorem KeptTo.alloc {n : Nat} {w w' : World} (h : KeptTo n w w') (hn : n ≤ w'.heap.size) (o : Obj) : KeptTo n w (w'.alloc o) :=
  h.trans ⟨rfl, rfl, by simp, fun k hk => Below.heap_alloc _ _ _ (by omega), rfl⟩
theorem KeptTo.set {n : Nat} {w w' : World} (h : KeptTo n w w') {a : Addr} (ha : n ≤ a.block) (v : Value) : KeptTo n w (w'.setCell a v) :=
  ⟨h.os, h.output, by simpa [World.setCell] using h.size, fun k hk => (Below.heap_setCell _ _ _ _ (by omega)).trans (h.block k hk), h.tape⟩
set_option maxRecDepth 100000 in
theorem catch_idle (p q r : Addr) (w : World) :
    CallsD Tryz.prog 151 #[.pointer (some p), .pointer (some q), .pointer (some r)] .returning w fun e u' w' => e = .returned (.tuple #[]) ∧ u' = .returning ∧ Kept w w' := by
  refine callsD_of_wpS Tryz.func151 rfl fun c₀ cs hu => ?_
  rw [show (#[Value.pointer (some p), .pointer (some q), .pointer (some r)] ++ Array.replicate (Tryz.f151.ntmps - #[Value.pointer (some p), .pointer (some q), .pointer (some r)].size) undef) = #[Value.pointer (some p), .pointer (some q), .pointer (some r), undef, undef, undef, undef, undef, undef, undef, undef, undef, undef, undef] from rfl]
  apply wpS_seq
  apply wpS_region
  simp [wpOpsS, go_sem, recoverD, hu, Exit.thenS, ta_nil]
  refine wpS_of_wp ?_
  go_wp2
  cases c₀
  simp_all [bodyPostS, results, Tryz.results151]
  exact (Kept.refl w).alloc _
def CatchPost (n : Nat) (w : World) (w' : World) : Prop :=
  KeptTo n w w' ∧ (∀ j, j < 6 → w'.cell? ⟨n, j, none⟩ = some (.int .i64 0)) ∧ w'.cell? ⟨n + 1, 0, none⟩ = some (.int .i64 0) ∧ w'.cell? ⟨n + 2, 0, none⟩ = some (.int .i64 2)
set_option maxRecDepth 100000 in
set_option maxHeartbeats 1000000 in
theorem catch_panicking (n : Nat) (y m d h i s b c : Int) (w : World) (hn : n + 2 < w.heap.size)
    (c0 : w.cell? ⟨n, 0, none⟩ = some (.int .i64 y)) (c1 : w.cell? ⟨n, 1, none⟩ = some (.int .i64 m)) (c2 : w.cell? ⟨n, 2, none⟩ = some (.int .i64 d))
    (c3 : w.cell? ⟨n, 3, none⟩ = some (.int .i64 h)) (c4 : w.cell? ⟨n, 4, none⟩ = some (.int .i64 i)) (c5 : w.cell? ⟨n, 5, none⟩ = some (.int .i64 s))
    (c6 : w.cell? ⟨n + 1, 0, none⟩ = some (.int .i64 b)) (c7 : w.cell? ⟨n + 2, 0, none⟩ = some (.int .i64 c))
    (f0 : ∀ j, w.frozen? ⟨n, j, none⟩ = false) (f1 : w.frozen? ⟨n + 1, 0, none⟩ = false) (f2 : w.frozen? ⟨n + 2, 0, none⟩ = false) :
    CallsD Tryz.prog 151 #[.pointer (some ⟨n, 0, none⟩), .pointer (some ⟨n + 1, 0, none⟩), .pointer (some ⟨n + 2, 0, none⟩)] (.panicking [{ v := faultV, recovered := false }]) w fun e u' w' => e = .returned (.tuple #[]) ∧ u' = .panicking [{ v := faultV, recovered := true }] ∧ CatchPost n w w' := by
  refine callsD_of_wpS Tryz.func151 rfl fun c₀ cs hu => ?_
  rw [show (#[Value.pointer (some ⟨n, 0, none⟩), .pointer (some ⟨n + 1, 0, none⟩), .pointer (some ⟨n + 2, 0, none⟩)] ++ Array.replicate (Tryz.f151.ntmps - #[Value.pointer (some ⟨n, 0, none⟩), .pointer (some ⟨n + 1, 0, none⟩), .pointer (some ⟨n + 2, 0, none⟩)].size) undef) = #[Value.pointer (some ⟨n, 0, none⟩), .pointer (some ⟨n + 1, 0, none⟩), .pointer (some ⟨n + 2, 0, none⟩), undef, undef, undef, undef, undef, undef, undef, undef, undef, undef, undef] from rfl]
  apply wpS_seq
  apply wpS_region
  simp [wpOpsS, go_sem, recoverD, hu, Exit.thenS, ta_hit]
  refine wpS_of_wp ?_
  have g := (Kept.refl w).alloc (.cells #[Value.int IntKind.i64 2] 187)
  have e0 := (Kept.refl (w.alloc (.cells #[Value.int IntKind.i64 2] 187))).new 0 rfl
  have hz : n ≤ (w.alloc (.cells #[Value.int IntKind.i64 2] 187)).heap.size := by simp; omega
  have kt := (KeptTo.refl n w).alloc (by omega) (.cells #[Value.int IntKind.i64 2] 187)
  have d0 := (g.cell (a := ⟨n, 0, none⟩) (by show n < _; omega)).trans c0
  have d1 := (g.cell (a := ⟨n, 1, none⟩) (by show n < _; omega)).trans c1
  have d2 := (g.cell (a := ⟨n, 2, none⟩) (by show n < _; omega)).trans c2
  have d3 := (g.cell (a := ⟨n, 3, none⟩) (by show n < _; omega)).trans c3
  have d4 := (g.cell (a := ⟨n, 4, none⟩) (by show n < _; omega)).trans c4
  have d5 := (g.cell (a := ⟨n, 5, none⟩) (by show n < _; omega)).trans c5
  have d6 := (g.cell (a := ⟨n + 1, 0, none⟩) (by show n + 1 < _; omega)).trans c6
  have d7 := (g.cell (a := ⟨n + 2, 0, none⟩) (by show n + 2 < _; omega)).trans c7
  have g0 : ∀ j, (w.alloc (.cells #[Value.int IntKind.i64 2] 187)).frozen? ⟨n, j, none⟩ = false := fun j => (g.frozen (a := ⟨n, j, none⟩) (by show n < _; omega)).trans (f0 j)
  have g1 := (g.frozen (a := ⟨n + 1, 0, none⟩) (by show n + 1 < _; omega)).trans f1
  have g2 := (g.frozen (a := ⟨n + 2, 0, none⟩) (by show n + 2 < _; omega)).trans f2
  have ne0 : ¬ n = w.heap.size := by omega
  have ne1 : ¬ n + 1 = w.heap.size := by omega
  have ne2 : ¬ n + 2 = w.heap.size := by omega
  have ne0' : ¬ w.heap.size = n := by omega
  have ne1' : ¬ w.heap.size = n + 1 := by omega
  have ne2' : ¬ w.heap.size = n + 2 := by omega
  clear c0 c1 c2 c3 c4 c5 c6 c7 f0 f1 f2 g
  generalize w.alloc (.cells #[Value.int IntKind.i64 2] 187) = W at *
  go_wp2
  go_region
  refine ⟨rfl, _, rfl, .tuple #[], by simp [results, Tryz.results151], rfl, rfl, ?_, ?_, ?_, ?_⟩
  · exact ((((((((kt.set (Nat.le_refl _) _).set (Nat.le_refl _) _).set (Nat.le_refl _) _).set (Nat.le_refl _) _).set (Nat.le_refl _) _).set (Nat.le_refl _) _).set (a := ⟨n + 1, 0, none⟩) (Nat.le_succ _) _).set (a := ⟨n + 2, 0, none⟩) (by show n ≤ n + 2; omega) _).drew
  · intro j hj
    have : j = 0 ∨ j = 1 ∨ j = 2 ∨ j = 3 ∨ j = 4 ∨ j = 5 := by omega
    rcases this with rfl | rfl | rfl | rfl | rfl | rfl <;> simp [go_sem, *]
  · simp [go_sem, *]
  · simp [go_sem, *]
end Go.Proofs.YtflhmgnhjnaiiaaGreatDoor.Sm
/- Contracts of package stamp: a whole text is read, and parsed. -/
namespace Go.Proofs.YtflhmgnhjnaiiaaGreatDoor.Sm
open Go.ChangeShapes Go.WideShapes Go.ChangeAt Go.RowKit
open Civ
/-- within a reading: the three results' blocks, and the reader behind them -/
structure Rd (n : Nat) (w : World) (cs : Array Value) (a e : Int) (l : List UInt8) (x : World) : Prop where
  kt : KeptTo n w x
  b0 : x.heap[n]? = some (.cells cs 182)
  b1 : x.heap[n + 1]? = some (.cells #[.int .i64 a] 3)
  b2 : x.heap[n + 1 + 1]? = some (.cells #[.int .i64 e] 27)
  lt : n + 1 + 1 + 1 < x.heap.size
  left : x.cell? ⟨n + 1 + 1 + 1, 0, none⟩ = some (.string ⟨l.toArray⟩)
  fro : x.frozen? ⟨n + 1 + 1 + 1, 0, none⟩ = false
theorem Rd.only {n : Nat} {w x x' : World} {cs : Array Value} {a e : Int} {l r : List UInt8} (h : Rd n w cs a e l x) (ho : Only (n + 1 + 1 + 1) x x') (hc : x'.cell? ⟨n + 1 + 1 + 1, 0, none⟩ = some (.string ⟨r.toArray⟩)) : Rd n w cs a e r x' :=
  ⟨h.kt.trans (KeptTo.of_only ho (by omega) (by have := h.lt; omega)), (ho.block n (by have := h.lt; omega) (by omega)).trans h.b0, (ho.block (n + 1) (by have := h.lt; omega) (by omega)).trans h.b1, (ho.block (n + 1 + 1) (by have := h.lt; omega) (by omega)).trans h.b2, Nat.lt_of_lt_of_le h.lt ho.size, hc, ho.frozen.trans h.fro⟩
/-- the same, where what is left of the text is not asked -/
structure Tri (n : Nat) (w : World) (cs : Array Value) (a e : Int) (x : World) : Prop where
  kt : KeptTo n w x
  b0 : x.heap[n]? = some (.cells cs 182)
  b1 : x.heap[n + 1]? = some (.cells #[.int .i64 a] 3)
  b2 : x.heap[n + 1 + 1]? = some (.cells #[.int .i64 e] 27)
  lt : n + 1 + 1 + 1 < x.heap.size
theorem Rd.out {n : Nat} {w x x' : World} {cs : Array Value} {a e : Int} {l : List UInt8} (h : Rd n w cs a e l x) (ho : Only (n + 1 + 1 + 1) x x') : Tri n w cs a e x' :=
  ⟨h.kt.trans (KeptTo.of_only ho (by omega) (by have := h.lt; omega)), (ho.block n (by have := h.lt; omega) (by omega)).trans h.b0, (ho.block (n + 1) (by have := h.lt; omega) (by omega)).trans h.b1, (ho.block (n + 1 + 1) (by have := h.lt; omega) (by omega)).trans h.b2, Nat.lt_of_lt_of_le h.lt ho.size⟩
theorem cell_of {x : World} {n j : Nat} {cs : Array Value} {t : TypeId} {v : Value} (h : x.heap[n]? = some (.cells cs t)) (hv : cs[j]? = some v) : x.cell? ⟨n, j, none⟩ = some v := by
  simp [World.cell?, h, hv]
theorem fro_of {x : World} {n : Nat} {cs : Array Value} {t : TypeId} (h : x.heap[n]? = some (.cells cs t)) (j : Nat) : x.frozen? ⟨n, j, none⟩ = false := by
  simp [World.frozen?, h]
theorem block_set {x : World} {n j : Nat} {cs : Array Value} {t : TypeId} (h : x.heap[n]? = some (.cells cs t)) (v : Value) : (x.setCell ⟨n, j, none⟩ v).heap[n]? = some (.cells (cs.setIfInBounds j v) t) := by
  simp [World.setCell, Array.getElem?_modify, h]
theorem Rd.putc {n : Nat} {w x : World} {cs : Array Value} {a e : Int} {l : List UInt8} (h : Rd n w cs a e l x) (j : Nat) (v : Value) : Rd n w (cs.setIfInBounds j v) a e l (x.setCell ⟨n, j, none⟩ v) := by
  have q : ∀ k, k ≠ n → (x.setCell ⟨n, j, none⟩ v).heap[k]? = x.heap[k]? := fun k hk => Below.heap_setCell _ _ _ _ hk
  refine ⟨h.kt.set (Nat.le_refl _) _, block_set h.b0 v, (q _ (by omega)).trans h.b1, (q _ (by omega)).trans h.b2, by simpa [World.setCell] using h.lt, ?_, (World.frozen?_setCell _ _ _ _).trans h.fro⟩
  have := h.left
  unfold World.cell? at this ⊢
  rw [q (n + 1 + 1 + 1) (by omega)]; exact this
theorem Rd.puta {n : Nat} {w x : World} {cs : Array Value} {a e : Int} {l : List UInt8} (h : Rd n w cs a e l x) (a' : Int) : Rd n w cs a' e l (x.setCell ⟨n + 1, 0, none⟩ (.int .i64 a')) := by
  have q : ∀ k, k ≠ n + 1 → (x.setCell ⟨n + 1, 0, none⟩ (.int .i64 a')).heap[k]? = x.heap[k]? := fun k hk => Below.heap_setCell _ _ _ _ hk
  refine ⟨h.kt.set (a := ⟨n + 1, 0, none⟩) (Nat.le_succ _) _, (q _ (by omega)).trans h.b0, block_set h.b1 _, (q _ (by omega)).trans h.b2, by simpa [World.setCell] using h.lt, ?_, (World.frozen?_setCell _ _ _ _).trans h.fro⟩
  have := h.left
  unfold World.cell? at this ⊢
  rw [q (n + 1 + 1 + 1) (by omega)]; exact this
theorem Rd.pute {n : Nat} {w x : World} {cs : Array Value} {a e : Int} {l : List UInt8} (h : Rd n w cs a e l x) (e' : Int) : Tri n w cs a e' (x.setCell ⟨n + 1 + 1, 0, none⟩ (.int .i64 e')) := by
  have q : ∀ k, k ≠ n + 1 + 1 → (x.setCell ⟨n + 1 + 1, 0, none⟩ (.int .i64 e')).heap[k]? = x.heap[k]? := fun k hk => Below.heap_setCell _ _ _ _ hk
  exact ⟨h.kt.set (a := ⟨n + 1 + 1, 0, none⟩) (by show n ≤ n + 1 + 1; omega) _, (q _ (by omega)).trans h.b0, (q _ (by omega)).trans h.b1, block_set h.b2 _, by simpa [World.setCell] using h.lt⟩
theorem Tri.kept {n : Nat} {w x x' : World} {cs : Array Value} {a e : Int} (h : Tri n w cs a e x) (k : Kept x.drew x') : Tri n w cs a e x' :=
  have lt := h.lt
  ⟨h.kt.trans ⟨k.os, k.output, k.size, fun i hi => k.block i (by show i < x.heap.size; omega), k.tape⟩, (k.block n (by show n < x.heap.size; omega)).trans h.b0, (k.block (n + 1) (by show n + 1 < x.heap.size; omega)).trans h.b1, (k.block (n + 1 + 1) (by show n + 1 + 1 < x.heap.size; omega)).trans h.b2, Nat.lt_of_lt_of_le h.lt k.size⟩
/-- a whole text -/
def rread (l : List UInt8) : Option ((Int × Int × Int × Int × Int × Int) × Int) :=
  (rciv l).bind fun a => (rfrac a.2).bind fun l2 => (rzone l2).bind fun z => if z.2 = [] then some (a.1, z.1) else none
def ReadPost (o : Option ((Int × Int × Int × Int × Int × Int) × Int)) (w : World) (e : Ending) (w' : World) : Prop :=
  match o with
  | none => e = .returned (.tuple #[civ 0 0 0 0 0 0, .int .i64 0, .int .i64 2]) ∧ Kept w w'
  | some ((y, m, d, h, i, s), a) => e = .returned (.tuple #[civ y m d h i s, .int .i64 a, .int .i64 0]) ∧ Kept w w'
theorem kept_to {w w' : World} (h : KeptTo w.heap.size w w') : Kept w w' := ⟨h.os, h.output, h.size, h.block, h.tape⟩
theorem read_results (n : Nat) (y m d h i s a e : Int) (tmps : Array Value) (x : World) (h2 : tmps[2]? = some (.pointer (some ⟨n, 0, none⟩))) (h3 : tmps[3]? = some (.pointer (some ⟨n + 1, 0, none⟩))) (h4 : tmps[4]? = some (.pointer (some ⟨n + 1 + 1, 0, none⟩)))
    (c0 : x.cell? ⟨n, 0, none⟩ = some (.int .i64 y)) (c1 : x.cell? ⟨n, 1, none⟩ = some (.int .i64 m)) (c2 : x.cell? ⟨n, 2, none⟩ = some (.int .i64 d))
    (c3 : x.cell? ⟨n, 3, none⟩ = some (.int .i64 h)) (c4 : x.cell? ⟨n, 4, none⟩ = some (.int .i64 i)) (c5 : x.cell? ⟨n, 5, none⟩ = some (.int .i64 s))
    (c6 : x.cell? ⟨n + 1, 0, none⟩ = some (.int .i64 a)) (c7 : x.cell? ⟨n + 1 + 1, 0, none⟩ = some (.int .i64 e)) :
    (results Tryz.f149 tmps).run Tryz.prog x = .ok (.tuple #[civ y m d h i s, .int .i64 a, .int .i64 e]) x := by
  simp [results, Tryz.results149, go_sem, *]
set_option maxRecDepth 100000 in
/-- a reading that panics is caught -/
theorem read_out {w x : World} {y m d h i s a e : Int} (T : Tri w.heap.size w #[.int .i64 y, .int .i64 m, .int .i64 d, .int .i64 h, .int .i64 i, .int .i64 s] a e x) (tmps : Array Value)
    (h2 : tmps[2]? = some (.pointer (some ⟨w.heap.size, 0, none⟩))) (h3 : tmps[3]? = some (.pointer (some ⟨w.heap.size + 1, 0, none⟩))) (h4 : tmps[4]? = some (.pointer (some ⟨w.heap.size + 1 + 1, 0, none⟩))) :
    Leaves Tryz.prog Tryz.f149 tmps (ReadPost none w) [{ target := .fn (.func 151) #[.pointer (some ⟨w.heap.size, 0, none⟩), .pointer (some ⟨w.heap.size + 1, 0, none⟩), .pointer (some ⟨w.heap.size + 1 + 1, 0, none⟩)], args := #[] }] (.panicking [{ v := faultV, recovered := false }]) x := by
  refine leaves_cons (f := 151) (args := #[.pointer (some ⟨w.heap.size, 0, none⟩), .pointer (some ⟨w.heap.size + 1, 0, none⟩), .pointer (some ⟨w.heap.size + 1 + 1, 0, none⟩)]) (by simp) (by simp [go_sem]) ?_
  refine (catch_panicking w.heap.size y m d h i s a e x (by have := T.lt; omega) (cell_of T.b0 rfl) (cell_of T.b0 rfl) (cell_of T.b0 rfl) (cell_of T.b0 rfl) (cell_of T.b0 rfl) (cell_of T.b0 rfl) (cell_of T.b1 rfl) (cell_of T.b2 rfl) (fro_of T.b0) (fro_of T.b1 0) (fro_of T.b2 0)).mono ?_
  rintro e u' w'' ⟨rfl, rfl, k, hz, z1, z2⟩
  show Leaves Tryz.prog Tryz.f149 tmps (ReadPost none w) [] .returning w''
  exact ⟨_, read_results w.heap.size 0 0 0 0 0 0 0 2 tmps w'' h2 h3 h4 (hz 0 (by omega)) (hz 1 (by omega)) (hz 2 (by omega)) (hz 3 (by omega)) (hz 4 (by omega)) (hz 5 (by omega)) z1 z2, rfl, kept_to (T.kt.trans k)⟩
set_option maxRecDepth 100000 in
/-- a reading that ends -/
theorem read_done {w x : World} {y m d h i s a : Int} (T : Tri w.heap.size w #[.int .i64 y, .int .i64 m, .int .i64 d, .int .i64 h, .int .i64 i, .int .i64 s] a 0 x) (tmps : Array Value)
    (h2 : tmps[2]? = some (.pointer (some ⟨w.heap.size, 0, none⟩))) (h3 : tmps[3]? = some (.pointer (some ⟨w.heap.size + 1, 0, none⟩))) (h4 : tmps[4]? = some (.pointer (some ⟨w.heap.size + 1 + 1, 0, none⟩))) :
    Leaves Tryz.prog Tryz.f149 tmps (ReadPost (some ((y, m, d, h, i, s), a)) w) [{ target := .fn (.func 151) #[.pointer (some ⟨w.heap.size, 0, none⟩), .pointer (some ⟨w.heap.size + 1, 0, none⟩), .pointer (some ⟨w.heap.size + 1 + 1, 0, none⟩)], args := #[] }] .returning x.drew := by
  refine leaves_cons (f := 151) (args := #[.pointer (some ⟨w.heap.size, 0, none⟩), .pointer (some ⟨w.heap.size + 1, 0, none⟩), .pointer (some ⟨w.heap.size + 1 + 1, 0, none⟩)]) (by simp) (by simp [go_sem]) ?_
  refine (catch_idle _ _ _ _).mono ?_
  rintro e u' w'' ⟨rfl, rfl, kc⟩
  show Leaves Tryz.prog Tryz.f149 tmps (ReadPost (some ((y, m, d, h, i, s), a)) w) [] .returning w''
  have kd := T.kept kc
  exact ⟨_, read_results w.heap.size y m d h i s a 0 tmps w'' h2 h3 h4 (cell_of kd.b0 rfl) (cell_of kd.b0 rfl) (cell_of kd.b0 rfl) (cell_of kd.b0 rfl) (cell_of kd.b0 rfl) (cell_of kd.b0 rfl) (cell_of kd.b1 rfl) (cell_of kd.b2 rfl), rfl, kept_to kd.kt⟩
theorem rd_start (l : List UInt8) (w : World) : Rd w.heap.size w #[.int .i64 0, .int .i64 0, .int .i64 0, .int .i64 0, .int .i64 0, .int .i64 0] 0 0 l
    ((((w.alloc (.cells #[.int .i64 0, .int .i64 0, .int .i64 0, .int .i64 0, .int .i64 0, .int .i64 0] 182)).alloc (.cells #[.int .i64 0] 3)).alloc (.cells #[.int .i64 0] 27)).alloc (.cells #[.string ⟨l.toArray⟩] 191)) := by
  have q : ∀ (A B C D : Obj), ((((w.alloc A).alloc B).alloc C).alloc D).heap = (((w.heap.push A).push B).push C).push D := fun _ _ _ _ => rfl
  refine ⟨((((KeptTo.refl _ w).alloc (by simp) _).alloc (by simp) _).alloc (by simp; omega) _).alloc (by simp; omega) _, ?_, ?_, ?_, ?_, ?_, ?_⟩
  · rw [q, Array.getElem?_push, if_neg (by simp; omega), Array.getElem?_push, if_neg (by simp; omega), Array.getElem?_push, if_neg (by simp), Array.getElem?_push, if_pos rfl]
  · rw [q, Array.getElem?_push, if_neg (by simp), Array.getElem?_push, if_neg (by simp), Array.getElem?_push, if_pos (by simp)]
  · rw [q, Array.getElem?_push, if_neg (by simp), Array.getElem?_push, if_pos (by simp)]
  · rw [q]; simp
  · unfold World.cell?; rw [q, Array.getElem?_push, if_pos (by simp)]; rfl
  · unfold World.frozen?; rw [q, Array.getElem?_push, if_pos (by simp)]; rfl
set_option maxRecDepth 100000 in
set_option maxHeartbeats 2000000 in
theorem read_any (l : List UInt8) (w : World) : Calls Tryz.prog 149 #[.string ⟨l.toArray⟩] w (ReadPost (rread l) w) := by
  have hmf : ∀ (fn : Fn) (first cap : Array Value) (w : World), (Instr.makeFunc fn first cap).run Tryz.prog w = .ok (.func fn first cap) w := fun _ _ _ _ => rfl
  have R0 := Lib.hid (rd_start l w)
  go_enter_defers Tryz.func149, Tryz.ntmps149
  go_wp2_with fail
  generalize (((w.alloc (.cells #[.int .i64 0, .int .i64 0, .int .i64 0, .int .i64 0, .int .i64 0, .int .i64 0] 182)).alloc (.cells #[.int .i64 0] 3)).alloc (.cells #[.int .i64 0] 27)).alloc (.cells #[.string ⟨l.toArray⟩] 191) = x0 at *
  refine (civ_any l _ _ R0.out.lt R0.out.left R0.out.fro).mono ?_
  intro e x1 hp
  rcases h1 : rciv l with _ | ⟨⟨y, m, d, h, i, s⟩, l1⟩
  · rw [h1] at hp
    obtain ⟨rfl, ho⟩ := hp
    show Leaves _ _ _ (ReadPost (rread l) w) _ _ _
    rw [show rread l = none by simp only [rread, h1, Option.bind_none]]
    exact read_out (R0.out.out ho) _ rfl rfl rfl
  rw [h1] at hp
  obtain ⟨rfl, ho, hc⟩ := hp
  have R1 := Lib.hid (R0.out.only ho hc)
  clear R0 ho hc
  have H1 := Lib.hid h1; clear h1
  have c0 := cell_of (j := 0) R1.out.b0 rfl
  have c1 := cell_of (j := 1) R1.out.b0 rfl
  have c2 := cell_of (j := 2) R1.out.b0 rfl
  have c3 := cell_of (j := 3) R1.out.b0 rfl
  have c4 := cell_of (j := 4) R1.out.b0 rfl
  have c5 := cell_of (j := 5) R1.out.b0 rfl
  have f0 := fro_of R1.out.b0
  have R2 := Lib.hid (show Rd w.heap.size w #[.int .i64 y, .int .i64 m, .int .i64 d, .int .i64 h, .int .i64 i, .int .i64 s] 0 0 l1 _ from (((((R1.out.putc 0 (.int .i64 y)).putc 1 (.int .i64 m)).putc 2 (.int .i64 d)).putc 3 (.int .i64 h)).putc 4 (.int .i64 i)).putc 5 (.int .i64 s))
  go_wp2_with fail
  clear c0 c1 c2 c3 c4 c5 f0 R1
  generalize (((((x1.setCell ⟨w.heap.size, 0, none⟩ (.int .i64 y)).setCell ⟨w.heap.size, 1, none⟩ (.int .i64 m)).setCell ⟨w.heap.size, 2, none⟩ (.int .i64 d)).setCell ⟨w.heap.size, 3, none⟩ (.int .i64 h)).setCell ⟨w.heap.size, 4, none⟩ (.int .i64 i)).setCell ⟨w.heap.size, 5, none⟩ (.int .i64 s) = x2 at *
  refine (frac_any l1 _ _ R2.out.lt R2.out.left R2.out.fro).mono ?_
  intro e x3 hp
  rcases h2 : rfrac l1 with _ | l2
  · rw [h2] at hp
    obtain ⟨rfl, ho⟩ := hp
    show Leaves _ _ _ (ReadPost (rread l) w) _ _ _
    rw [show rread l = none by simp only [rread, H1.out, h2, Option.bind_none, Option.bind_some]]
    exact read_out (R2.out.out ho) _ rfl rfl rfl
  rw [h2] at hp
  obtain ⟨rfl, ho, hc⟩ := hp
  have R3 := Lib.hid (R2.out.only ho hc)
  clear R2 ho hc
  have H2 := Lib.hid h2; clear h2
  go_wp2_with fail
  refine (ahead_any l2 _ _ R3.out.left R3.out.fro).mono ?_
  intro e x4 hp
  rcases h3 : rzone l2 with _ | ⟨z, l3⟩
  · rw [h3] at hp
    obtain ⟨rfl, ho⟩ := hp
    show Leaves _ _ _ (ReadPost (rread l) w) _ _ _
    rw [show rread l = none by simp only [rread, H1.out, H2.out, h3, Option.bind_none, Option.bind_some]]
    exact read_out (R3.out.out ho) _ rfl rfl rfl
  rw [h3] at hp
  obtain ⟨rfl, ho, hc⟩ := hp
  have R4 := Lib.hid (R3.out.only ho hc)
  clear R3 ho hc
  have H3 := Lib.hid h3; clear h3
  have c6 := cell_of (j := 0) R4.out.b1 rfl
  have f1 := fro_of R4.out.b1 0
  have R5 := Lib.hid (R4.out.puta z)
  have c8 := R5.out.left
  cases l3 with
  | cons b r =>
    go_wp2
    show Leaves _ _ _ (ReadPost (rread l) w) _ _ _
    rw [show rread l = none by simp only [rread, H1.out, H2.out, H3.out, Option.bind_some]; rw [if_neg (by simp)]]
    exact read_out ⟨R5.out.kt, R5.out.b0, R5.out.b1, R5.out.b2, R5.out.lt⟩ _ rfl rfl rfl
  | nil =>
    have HR := Lib.hid (show rread l = some ((y, m, d, h, i, s), z) by simp only [rread, H1.out, H2.out, H3.out, Option.bind_some, if_true])
    go_wp2_with fail
    clear c6 f1 R4
    generalize x4.setCell ⟨w.heap.size + 1, 0, none⟩ (.int .i64 z) = x5 at *
    have c0 := cell_of (j := 0) R5.out.b0 rfl
    have c1 := cell_of (j := 1) R5.out.b0 rfl
    have c2 := cell_of (j := 2) R5.out.b0 rfl
    have c3 := cell_of (j := 3) R5.out.b0 rfl
    have c4 := cell_of (j := 4) R5.out.b0 rfl
    have c5 := cell_of (j := 5) R5.out.b0 rfl
    have f0 := fro_of R5.out.b0
    have c6 := cell_of (j := 0) R5.out.b1 rfl
    have f1 := fro_of R5.out.b1 0
    have c7 := cell_of (j := 0) R5.out.b2 rfl
    have f2 := fro_of R5.out.b2 0
    have R7 := Lib.hid (show Tri w.heap.size w #[.int .i64 y, .int .i64 m, .int .i64 d, .int .i64 h, .int .i64 i, .int .i64 s] z 0 _ from (((((((R5.out.putc 0 (.int .i64 y)).putc 1 (.int .i64 m)).putc 2 (.int .i64 d)).putc 3 (.int .i64 h)).putc 4 (.int .i64 i)).putc 5 (.int .i64 s)).puta z).pute 0)
    clear R5
    go_region
    go_wp2
    clear c0 c1 c2 c3 c4 c5 c6 c7 c8 f0 f1 f2
    show Leaves _ _ _ (ReadPost (rread l) w) _ _ _
    rw [HR.out]
    exact read_done R7.out _ rfl rfl rfl
/-- the second that a text is -/
noncomputable def rparse (l : List UInt8) : Option Int :=
  (rread l).bind fun p => if mayB p.1.1 p.1.2.1 p.1.2.2.1 p.1.2.2.2.1 p.1.2.2.2.2.1 p.1.2.2.2.2.2 = true then some (sec p.1.1 p.1.2.1 p.1.2.2.1 p.1.2.2.2.1 p.1.2.2.2.2.1 p.1.2.2.2.2.2 - p.2) else none
def ParsePost (o : Option Int) (w : World) (e : Ending) (w' : World) : Prop :=
  match o with
  | none => e = .returned (.tuple #[.int .i64 0, .int .i64 2]) ∧ Kept w w'
  | some t => e = .returned (.tuple #[.int .i64 t, .int .i64 0]) ∧ Kept w w'
theorem may_iff {y m d h i s : Int} : mayB y m d h i s = true ↔ okP y m d ∧ tmB h i s = true := by
  unfold mayB okP; rw [Bool.and_eq_true, okB_iff]
theorem rzone_bd {l r : List UInt8} {z : Int} (h : rzone l = some (z, r)) : -86400 < z ∧ z < 86400 := by
  unfold rzone at h
  rcases h1 : rsign [90, 122, 43, 45] l with _ | ⟨c, l1⟩
  · simp [h1] at h
  rw [h1] at h
  simp only [Option.bind_some] at h
  split at h
  · cases h; omega
  rcases h2 : rnum 2 0 l1 with _ | ⟨a, l2⟩
  · simp [h2] at h
  rcases h3 : rsign [58] l2 with _ | ⟨b, l3⟩
  · simp [h2, h3] at h
  rcases h4 : rnum 2 0 l3 with _ | ⟨m, l4⟩
  · simp [h2, h3, h4] at h
  rw [h2] at h
  simp only [Option.bind_some, h3, h4] at h
  split at h
  · rename_i ht
    have := tm_bd ht
    split at h <;> cases h <;> omega
  · cases h
theorem rread_bd {l : List UInt8} {p : Int × Int × Int × Int × Int × Int} {z : Int} (h : rread l = some (p, z)) : -86400 < z ∧ z < 86400 := by
  unfold rread at h
  rcases h1 : rciv l with _ | ⟨c, l1⟩
  · simp [h1] at h
  rcases h2 : rfrac l1 with _ | l2
  · simp [h1, h2] at h
  rcases h3 : rzone l2 with _ | ⟨z', l3⟩
  · simp [h1, h2, h3] at h
  rw [h1] at h
  simp only [Option.bind_some, h2, h3] at h
  split at h
  · cases h; exact rzone_bd h3
  · cases h
set_option maxHeartbeats 1000000 in
theorem parse_any (l : List UInt8) (w : World) : Calls Tryz.prog 148 #[.string ⟨l.toArray⟩] w (ParsePost (rparse l) w) := by
  go_enter Tryz.func148, Tryz.ntmps148
  go_wp2_with fail
  refine (read_any l _).mono ?_
  intro e w1 hp
  rcases h1 : rread l with _ | ⟨⟨y, m, d, h, i, s⟩, z⟩
  · rw [h1] at hp
    obtain ⟨rfl, k1⟩ := hp
    have HR := Lib.hid (show rparse l = none by simp only [rparse, h1, Option.bind_none])
    clear h1
    go_wp2
    go_ret2
    rw [HR.out]
    exact ⟨rfl, k1.alloc _⟩
  rw [h1] at hp
  obtain ⟨rfl, k1⟩ := hp
  obtain ⟨z1, z2⟩ := rread_bd h1
  have H1 := Lib.hid h1; clear h1
  by_cases hm : okP y m d ∧ tmB h i s = true
  · have HR := Lib.hid (show rparse l = some (sec y m d h i s - z) by simp only [rparse, H1.out, Option.bind_some]; rw [if_pos (may_iff.2 hm)])
    obtain ⟨o1, o2⟩ := ord_bd hm.1
    obtain ⟨a1, a2, a3, a4, a5, a6⟩ := tm_bd hm.2
    have s1 : -62135596800 ≤ sec y m d h i s := by unfold sec; omega
    have s2 : sec y m d h i s ≤ 253402300799 := by unfold sec; omega
    have HM := Lib.hid hm; clear hm
    clear o1 o2 a1 a2 a3 a4 a5 a6
    go_wp2_with fail
    refine (of_yes y m d h i s _ HM.out.1 HM.out.2).mono ?_
    rintro e w2 ⟨rfl, k2⟩
    go_wp2
    go_ret2
    rw [HR.out]
    exact ⟨rfl, k1.trans k2.back⟩
  · have HR := Lib.hid (show rparse l = none by simp only [rparse, H1.out, Option.bind_some]; rw [if_neg (fun h => hm (may_iff.1 h))])
    have HM := Lib.hid hm; clear hm
    go_wp2_with fail
    refine (of_not y m d h i s _ HM.out).mono ?_
    rintro e w2 ⟨rfl, k2⟩
    go_wp2
    go_ret2
    rw [HR.out]
    exact ⟨rfl, k1.trans k2.back⟩
end Go.Proofs.YtflhmgnhjnaiiaaGreatDoor.Sm
