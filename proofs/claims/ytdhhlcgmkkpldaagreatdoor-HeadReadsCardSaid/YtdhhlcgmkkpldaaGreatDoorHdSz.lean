/- Package head: how many bytes there are up to the first empty line; bytes cloned. -/
import Derived.Test.YtdhhlcgmkkpldaaGreatDoorHdAl
set_option linter.unusedSimpArgs false
set_option linter.unusedVariables false
namespace Go.Proofs.YtdhhlcgmkkpldaaGreatDoor.Hd
open Go.ChangeShapes Go.WideShapes Go.ChangeAt Go.RowKit Go.Shelf
theorem bytesOf_nat (l : B) : Lib.bytesOf (l.map fun b => (b.toNat : Int)) = l := by
  unfold Lib.bytesOf
  rw [List.map_map]
  conv => rhs; rw [← List.map_id l]
  refine List.map_congr_left fun b _ => ?_
  simp
theorem getD_nat (l : B) (i : Nat) (hi : i < l.length) : (l.map fun b => (b.toNat : Int)).getD i 0 = ((l[i]'hi).toNat : Int) := by
  rw [List.getD_eq_getElem?_getD, List.getElem?_map, List.getElem?_eq_getElem hi]; rfl
theorem indexB_any (v u : Value) (l p : B) (w : World) (hv : BRd v l w) (hu : BRd u p w) (hE : Env w) (hl : l ≠ []) (hp : p ≠ []) (hll : l.length ≤ 4000000000) (hpl : p.length ≤ 1000) :
    Calls Tryz.prog 34 #[v, u] w fun e w' => e = .returned (iV (Lib.index l p)) ∧ Kept w w' := by
  obtain ⟨m, hm⟩ := hE
  obtain ⟨a1, c1, rfl, _, h1⟩ := hv
  obtain ⟨g1, o1, rfl, hc1, h1⟩ := h1 hl
  obtain ⟨a2, c2, rfl, _, h2⟩ := hu
  obtain ⟨g2, o2, rfl, hc2, h2⟩ := h2 hp
  have hx : ∀ (q : B) x, x ∈ (q.map fun b => (b.toNat : Int)) → 0 ≤ x ∧ x < 256 := fun q x hx => by
    obtain ⟨b, _, rfl⟩ := List.mem_map.1 hx
    have := b.toNat_lt; omega
  refine (Tryz.bytes_Index_at ⟨g1, o1, none⟩ ⟨g2, o2, none⟩ l.length c1 p.length c2 (l.map fun b => (b.toNat : Int)) (p.map fun b => (b.toNat : Int)) m w (by simp) (by simp) (hx l) (hx p) (fun i hi => ?_) (fun i hi => ?_) hc1 (by omega) (by omega) hm).mono ?_
  · rw [Addr.add_lit, getD_nat l i hi]; exact h1 i _ (List.getElem?_eq_getElem hi)
  · rw [Addr.add_lit, getD_nat p i hi]; exact h2 i _ (List.getElem?_eq_getElem hi)
  · rintro e w' ⟨rfl, q, rfl⟩
    rw [bytesOf_nat, bytesOf_nat]
    exact ⟨rfl, (Kept.refl w).drewN q⟩
set_option maxRecDepth 100000 in
theorem index0_any (c : Nat) (a : Option Addr) (u : Value) (w : World) (hu : BRd u [13, 10, 13, 10] w) :
    Calls Tryz.prog 34 #[.slice a 0 c, u] w fun e w' => e = .returned (iV (-1)) ∧ Kept w w' := by
  obtain ⟨a2, c2, hv⟩ := hu.slice
  rw [show ([13, 10, 13, 10] : B).length = 4 from rfl] at hv
  subst hv
  clear hu
  go_enter Tryz.func34, Tryz.ntmps34
  go_wp2
  go_ret
  exact ⟨rfl, Kept.refl _⟩
/-- bytes of a constant -/
theorem brd_const (w : World) (t : B) (mk : Nat × Nat) (n : Nat) (hn : n = t.length) : BRd (.slice (some ⟨w.heap.size, 0, none⟩) n n) t (w.alloc (.cells (byteCells t).toArray 5 mk)) := by
  subst hn
  exact brd_new w t 5 _ rfl _ (Nat.le_refl _) mk
set_option maxRecDepth 100000 in
set_option maxHeartbeats 4000000 in
theorem size_any (v : Value) (l : B) (w : World) (hR : BRd v l w) (hE : Env w) (hl : l.length ≤ 100000000) :
    Calls Tryz.prog 16 #[v] w fun e w' => e = .returned (iV (siz l)) ∧ Kept w w' := by
  have kc := fun (w : World) (C : Array Value) (n c : Nat) => Lib.run_convert_bytes_const (P := Tryz.prog) w 22 5 C n c Tryz.underlying22 Tryz.underlying5
  obtain ⟨va, vc, hvv⟩ := hR.slice
  have HR := Lib.hid hR
  have HE := Lib.hid hE
  have ka := (Kept.refl w).alloc (.cells #[.int .u8 13, .int .u8 10] 5 (2, 3))
  have KA := Lib.hid ka
  have RA := Lib.hid (brd_new w [13, 10] 5 #[.int .u8 13, .int .u8 10] rfl 2 (Nat.le_refl 2) (2, 3))
  have HP := Lib.hid (hasPrefix_any v _ l [13, 10] _ (hR.kept ka) RA.out (by decide) (by omega) (by decide))
  have HS := Lib.hid (show siz l = if List.isPrefixOf [13, 10] l = true then 2 else if 0 ≤ Lib.index l [13, 10, 13, 10] then (Lib.index l [13, 10, 13, 10]).toNat + 4 else l.length from rfl)
  clear hR hE ka
  subst hvv
  go_enter Tryz.func16, Tryz.ntmps16
  go_wp2_with fail
  refine HP.out.mono ?_
  rintro e x1 ⟨rfl, k1⟩
  have K1 := Lib.hid (KA.out.trans k1)
  clear k1 HP RA KA
  cases hp : List.isPrefixOf [13, 10] l with
  | true =>
    have HQ := Lib.hid (HS.out.trans (if_pos hp))
    clear HS hp kc
    go_wp2
    go_ret
    exact ⟨by rw [HQ.out]; rfl, K1.out⟩
  | false =>
    have HQ := Lib.hid (HS.out.trans (if_neg (by rw [hp]; decide)))
    clear HS hp
    have kb := (Kept.refl x1).alloc (.cells #[.int .u8 13, .int .u8 10, .int .u8 13, .int .u8 10] 5 (4, 5))
    have KB := Lib.hid (K1.out.trans kb)
    have RB := Lib.hid (brd_new x1 [13, 10, 13, 10] 5 #[.int .u8 13, .int .u8 10, .int .u8 13, .int .u8 10] rfl 4 (Nat.le_refl 4) (4, 5))
    have RV := Lib.hid (HR.out.kept KB.out)
    have EB := Lib.hid (HE.out.kept KB.out)
    have HI : Calls Tryz.prog 34 #[.slice va l.length vc, .slice (some ⟨x1.heap.size, 0, none⟩) 4 4] (x1.alloc (.cells #[.int .u8 13, .int .u8 10, .int .u8 13, .int .u8 10] 5 (4, 5))) fun e w' => e = .returned (iV (Lib.index l [13, 10, 13, 10])) ∧ Kept (x1.alloc (.cells #[.int .u8 13, .int .u8 10, .int .u8 13, .int .u8 10] 5 (4, 5))) w' := by
      by_cases hne : l = []
      · subst hne
        exact index0_any vc va _ _ RB.out
      · exact indexB_any _ _ l [13, 10, 13, 10] _ RV.out RB.out EB.out hne (by decide) (by omega) (by decide)
    have HX := Lib.hid HI
    have hroom := Lib.index_room l [13, 10, 13, 10]
    have hge := Lib.index_ge l [13, 10, 13, 10]
    clear HI kb RV EB RB
    generalize Lib.index l [13, 10, 13, 10] = i at *
    rw [show ([13, 10, 13, 10] : B).length = 4 from rfl] at hroom
    go_wp2_with fail
    refine HX.out.mono ?_
    rintro e x2 ⟨rfl, k2⟩
    have K2 := Lib.hid (KB.out.trans k2)
    clear k2 HX KB kc
    by_cases hi : 0 ≤ i
    · have HZ := Lib.hid (HQ.out.trans (if_pos hi))
      have hr := hroom hi
      clear hroom
      go_wp2
      go_ret
      exact ⟨by rw [HZ.out]; simp; omega, K2.out⟩
    · have HZ := Lib.hid (HQ.out.trans (if_neg hi))
      clear hroom
      go_wp2
      go_ret
      exact ⟨by rw [HZ.out]; rfl, K2.out⟩
set_option maxRecDepth 100000 in
theorem clone_any (g o c : Nat) (l : B) (w : World) (hR : BRd (.slice (some ⟨g, o, none⟩) l.length c) l w) (hc : ∀ i x, l[i]? = some x → w.cell? ⟨g, o + i, none⟩ = some (.int .u8 x.toNat)) (hl : l.length ≤ 100000000) :
    Calls Tryz.prog 20 #[.slice (some ⟨g, o, none⟩) l.length c] w fun e w' => ∃ xv, e = .returned xv ∧ OwnB w.heap.size xv l w' ∧ Kept w w' := by
  refine (Tryz.bytes_Clone_at ⟨g, o, none⟩ l.length c (l.map fun b => (b.toNat : Int)) w (by simp) (by omega) (fun i hi => ?_)).mono ?_
  · rw [Addr.add_lit, getD_nat l i hi]; exact hc i _ (List.getElem?_eq_getElem hi)
  · rintro e w' ⟨xv, rfl, hO, _, hb⟩
    refine ⟨xv, rfl, ?_, Kept.of_below hb⟩
    unfold OwnB byteCells
    rw [List.map_map] at hO
    exact hO
end Go.Proofs.YtdhhlcgmkkpldaaGreatDoor.Hd
