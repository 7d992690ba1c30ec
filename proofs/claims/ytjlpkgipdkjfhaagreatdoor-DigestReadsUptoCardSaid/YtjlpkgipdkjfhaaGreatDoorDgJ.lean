import Derived.Test.YtjlpkgipdkjfhaaGreatDoorDgI
import Derived.Test.YtjlpkgipdkjfhaaGreatDoorDa
import Derived.Test.YtjlpkgipdkjfhaaGreatDoorPtJn
set_option linter.unusedSimpArgs false
set_option linter.unusedVariables false
namespace Go.Proofs.YtjlpkgipdkjfhaaGreatDoor.Bk.Dg
open Go.ChangeShapes Go.WideShapes Go.ChangeAt Go.RowKit Go.Shelf
open Go.Proofs.YtjlpkgipdkjfhaaGreatDoor.Dg
open Hd (SRd)
open Pt (LRd OwnLs Apart jB jX jE okJ joined b0)
def Bb (x : Value) (b : B) (w : World) : Prop := ∃ g cap cur fz, x = .slice (some ⟨g, 0, none⟩) b.length cap ∧ b.length ≤ cap ∧ w.heap[g]? = some (.cells cur 5 fz) ∧ ∀ (i : Nat) (c : UInt8), b[i]? = some c → w.cell? ⟨g, 0 + i, none⟩ = some (.int .u8 c.toNat)
theorem Bb.stay {x : Value} {b : B} {w w' : World} (h : Bb x b w) (hs : ∀ (k : Nat) (c : Array Value) (fz : Nat × Nat), w.heap[k]? = some (Obj.cells c 5 fz) → w'.heap[k]? = w.heap[k]?) : Bb x b w' := by
  obtain ⟨g, cap, cur, fz, h1, h2, h3, h4⟩ := h
  have e := hs g cur fz h3
  refine ⟨g, cap, cur, fz, h1, h2, by rw [e]; exact h3, fun i c hc => ?_⟩
  have := h4 i c hc
  unfold World.cell? at this ⊢
  simp only at this ⊢
  rw [e]; exact this
theorem Bb.kept {x : Value} {b : B} {w w' : World} (h : Bb x b w) (k : Kept w w') : Bb x b w' := h.stay fun j c fz hj => k.block j (Array.getElem?_eq_some_iff.1 hj).1
theorem Bb.rd {x : Value} {b : B} {w : World} (h : Bb x b w) : BRd x b w := by
  obtain ⟨g, cap, cur, fz, h1, h2, h3, h4⟩ := h
  exact ⟨_, _, h1, fun e => (by cases e), fun _ => ⟨g, 0, rfl, h2, h4⟩⟩
theorem Bb.grow {x : Value} {b : B} {w w' : World} {row : Option Nat} (h : Bb x b w) (hg : w.grownBy w' row) (hr : ∀ r, row = some r → ∃ c t, w.heap[r]? = some (.cells c t (0, 0)) ∧ t ≠ 5) : Bb x b w' :=
  h.stay fun j c fz hj => hg.block j (Array.getElem?_eq_some_iff.1 hj).1 (fun e => by
    obtain ⟨c', t, h1, h2⟩ := hr j e.symm
    rw [hj] at h1
    cases h1
    exact h2 rfl)
theorem to_bytesB (s : B) (w : World) : ∃ x w', (convert 9 25 (sV s)).run Tryz.prog w = .ok x w' ∧ Kept w w' ∧ Bb x s w' := by
  have h := Lib.run_convert_string_bytes (P := Tryz.prog) w 9 25 5 ⟨s.toArray⟩ Tryz.underlying9 Tryz.underlying25 Tryz.underlying5
  rw [str_lit] at h
  refine ⟨_, _, h, ?_, ?_⟩
  · exact ⟨rfl, rfl, by rw [Lib.bytesWorld_size]; omega, fun k hk => Lib.bytesWorld_at_old w _ _ k hk, rfl⟩
  · refine ⟨_, _, _, _, rfl, grownCap_ge _ _ _ _, Lib.bytesWorld_at_new w _ _, fun i x hx => ?_⟩
    have hi : i < s.length := (List.getElem?_eq_some_iff.1 hx).1
    rw [Nat.zero_add, Lib.bytesWorld_cell w _ _ i (by rw [str_lit]; exact hi)]
    simp [List.getD, hx]
def OwnLb (B0 : Nat) (v : Value) (ls : List B) (w : World) : Prop := ∃ vs, w.ownsRow B0 25 1 v ls.length vs ∧ ∀ (i : Nat) (b : B), ls[i]? = some b → ∃ x, vs[i]? = some x ∧ Bb x b w
theorem OwnLb.nil (B0 : Nat) (w : World) : OwnLb B0 (.slice none 0 0) [] w := ⟨[], World.ownsRow_nil _ _ _ _, fun i b h => by simp at h⟩
theorem OwnLb.kept {B0 : Nat} {v : Value} {ls : List B} {w w' : World} (h : OwnLb B0 v ls w) (k : Kept w w') : OwnLb B0 v ls w' := by
  obtain ⟨vs, h1, h2⟩ := h
  refine ⟨vs, own_keep h1 (k.grownBy none) NoRow.none, fun i b hb => ?_⟩
  obtain ⟨x, h3, h4⟩ := h2 i b hb
  exact ⟨x, h3, h4.kept k⟩
theorem OwnLb.rd {B0 : Nat} {v : Value} {ls : List B} {w : World} (h : OwnLb B0 v ls w) : LRd v ls w := by
  obtain ⟨vs, h1, h2⟩ := h
  refine Pt.OwnLs.rd ⟨vs, h1, fun i b hb => ?_⟩
  obtain ⟨x, h3, h4⟩ := h2 i b hb
  refine ⟨x, h3, h4.rd, fun _ r hr e => ?_⟩
  obtain ⟨c2, e2⟩ := own_kind h1 r hr
  obtain ⟨g, cap, cur, fz, q1, q2, q3, q4⟩ := h4
  subst q1
  simp [Value.ownBlock] at e
  subst e
  rw [q3] at e2
  cases e2
theorem kind_row {w : World} {B0 : Nat} {e : TypeId} {size : Nat} {v : Value} {n : Nat} {xs : List Value} (h : w.ownsRow B0 e size v n xs) (he : e ≠ 5) : ∀ r, v.ownBlock = some r → ∃ c t, w.heap[r]? = some (.cells c t (0, 0)) ∧ t ≠ 5 := fun r hr => by
  obtain ⟨c, hc⟩ := own_kind h r hr
  exact ⟨c, e, hc, he⟩
theorem OwnLb.beside {B0 B1 : Nat} {v kv : Value} {ls ks : List B} {w w' : World} (h : OwnLb B0 v ls w) (hS : Hd.OwnS B1 kv ks w) (hg : w.grownBy w' kv.ownBlock) : OwnLb B0 v ls w' := by
  obtain ⟨vs, h1, h2⟩ := h
  refine ⟨vs, own_keep h1 hg (NoRow.own hS (by decide)), fun i b hb => ?_⟩
  obtain ⟨x, h3, h4⟩ := h2 i b hb
  exact ⟨x, h3, h4.grow hg (kind_row hS (by decide))⟩
theorem wpList_pushB {ops : Array Oper} {rest : List Oper} {op : Oper} {a : Act} {w : World} {Q : Exit → Act → World → Prop} (hg : op.guard = none) (sx y : Operand) (ho : op.op = .call { callee := .builtin .append, args := #[sx, y], argTypes := #[43, 43] })
    (B0 : Nat) (v : Value) (ls : List B) (b : B) (x : Value) (k : Nat) (hs : a.eval sx = v) (hO : OwnLb B0 v ls w) (hx : a.eval y = .slice (some ⟨k, 0, none⟩) 1 1) (hc : w.cell? ⟨k, 0, none⟩ = some x) (hb : Bb x b w) (hl : ls.length ≤ 10000000) (hB : B0 ≤ w.heap.size)
    (h : ∀ v' w', OwnLb B0 v' (ls ++ [b]) w' → w.grownBy w' v.ownBlock → wpList Tryz.prog ops Q rest (a.put op.dst v') w') : wpList Tryz.prog ops Q (op :: rest) a w := by
  obtain ⟨i0, hi, hz0, hz1, hz2⟩ := info_parts Pt.infoL
  obtain ⟨vs, h1, h2⟩ := hO
  obtain ⟨v', w', hr, h3, h4, _⟩ := run_append_own_at (P := Tryz.prog) (w := w) B0 43 op.type 25 i0 _ 1 24 Tryz.underlying43 hi hz0 hz1 hz2 rfl (by decide) v ls.length vs h1 ⟨k, 0, none⟩ 1 1 [x] rfl (fun j u hj => by
    match j, hj with
    | 0, hj => simp at hj; subst hj; simpa [Addr.add] using hc) (fun u hu => by simp at hu; subst hu; exact Pt.BRd.one hb.rd) (by unfold maxLen; omega) (by omega) hB
  have hvl : vs.length = ls.length := by have := h1.1; omega
  have hO2 : OwnLb B0 v' (ls ++ [b]) w' := by
    refine ⟨vs ++ [x], by rw [List.length_append]; exact h3, fun i c hi => ?_⟩
    by_cases hlt : i < ls.length
    · rw [List.getElem?_append_left hlt] at hi
      obtain ⟨y, e1, e2⟩ := h2 i c hi
      exact ⟨y, by rw [List.getElem?_append_left (by omega)]; exact e1, e2.grow h4 (kind_row h1 (by decide))⟩
    · have : i = ls.length := by
        have := (List.getElem?_eq_some_iff.1 hi).1
        simp at this; omega
      subst this
      simp at hi
      subst hi
      exact ⟨x, by rw [← hvl]; simp, hb.grow h4 (kind_row h1 (by decide))⟩
  exact wpList_plain hg fun K hK => Hd.wp_ok sx y _ _ ho (by rw [hs, hx]; exact hr) (hK _ _ (h v' w' hO2 h4))
structure Jn (y0 : World) (kv bv : Value) (ks ls : List B) (y : World) : Prop where
  k : Kept y0 y
  s : Hd.OwnS y0.heap.size kv ks y
  b : OwnLb y0.heap.size bv ls y
theorem Jn.kept {y0 : World} {kv bv : Value} {ks ls : List B} {y z : World} (h : Jn y0 kv bv ks ls y) (k : Kept y z) : Jn y0 kv bv ks ls z := ⟨h.k.trans k, h.s.kept k, h.b.kept k⟩
theorem row_ge {w : World} {B0 : Nat} {e : TypeId} {size : Nat} {v : Value} {n : Nat} {xs : List Value} (h : w.ownsRow B0 e size v n xs) : ∀ g, v.ownBlock = some g → B0 ≤ g := fun g hg => (World.ownsRow.lt h g hg).1
theorem Jn.pushS {y0 : World} {kv kv' bv : Value} {ks ks' ls : List B} {y z : World} (h : Jn y0 kv bv ks ls y) (hs : Hd.OwnS y0.heap.size kv' ks' z) (hg : y.grownBy z kv.ownBlock) : Jn y0 kv' bv ks' ls z :=
  ⟨kept_row h.k hg (row_ge h.s), hs, h.b.beside h.s hg⟩
theorem Jn.pushB {y0 : World} {kv bv bv' : Value} {ks ls ls' : List B} {y z : World} (h : Jn y0 kv bv ks ls y) (hs : OwnLb y0.heap.size bv' ls' z) (hg : y.grownBy z bv.ownBlock) : Jn y0 kv bv' ks ls' z := by
  obtain ⟨vs, h1, h2⟩ := h.b
  exact ⟨kept_row h.k hg (row_ge h1), own_keep h.s hg (NoRow.own h1 (by decide)), hs⟩
theorem okJ_two (l : List It) : okJ [kT, kH] [txt l, htm l] = true := by
  have := okP_two l
  unfold okJ
  rw [show [kT, kH].zip [txt l, htm l] = two l from rfl, this]
  rfl
theorem join_two (kv lv : Value) (l : List It) (w : World) (hk : SRd kv [kT, kH] w) (hl : LRd lv [txt l, htm l] w) (hE : Env w) (hS : Sm l) :
    Calls Tryz.prog 49 #[kv, lv] w fun e w' => ∃ xv, e = .returned (.tuple #[xv, sV b0, iV 0]) ∧ OwnB w.heap.size xv (joined (two l)) w' ∧ Kept w w' := by
  have h := Pt.join_any kv lv [kT, kH] [txt l, htm l] w hk hl hE (by
    intro k hk
    simp only [List.mem_cons, List.not_mem_nil, or_false] at hk
    rcases hk with rfl | rfl <;> decide) (by
    intro b hb
    simp only [List.mem_cons, List.not_mem_nil, or_false] at hb
    rcases hb with rfl | rfl
    · exact hS.2.1
    · exact hS.2.2.1)
  have e1 : jB [kT, kH] [txt l, htm l] = joined (two l) := by unfold jB; rw [if_pos (okJ_two l)]; rfl
  have e2 : jX [kT, kH] [txt l, htm l] = b0 := by unfold jX; rw [if_pos (okJ_two l)]
  have e3 : jE [kT, kH] [txt l, htm l] = 0 := by unfold jE; rw [if_pos (okJ_two l)]
  rw [e1, e2, e3] at h
  exact h
def Wy (b : Nat) (cs : Array Value) (W : World) : Prop := W.heap[b]? = some (.cells cs 64)
theorem Wy.kept {b : Nat} {cs : Array Value} {W W' : World} (h : Wy b cs W) (k : Kept W W') : Wy b cs W' := (k.block _ (Array.getElem?_eq_some_iff.1 h).1).trans h
theorem Wy.new (W : World) (cs : Array Value) : Wy W.heap.size cs (W.alloc (.cells cs 64)) := World.alloc_heap_new W _
theorem Wy.grow {b : Nat} {cs : Array Value} {W W' : World} {B0 : Nat} {e : TypeId} {size : Nat} {v : Value} {n : Nat} {xs : List Value} (h : Wy b cs W) (hO : W.ownsRow B0 e size v n xs) (he : e ≠ 64) (hg : W.grownBy W' v.ownBlock) : Wy b cs W' :=
  (hg.block b (Array.getElem?_eq_some_iff.1 h).1 (fun e' => by
    obtain ⟨c, hc⟩ := own_kind hO b e'.symm
    unfold Wy at h
    rw [h] at hc
    cases hc
    exact he rfl)).trans h
theorem Wy.c {b j : Nat} {cs : Array Value} {W : World} {v : Value} (h : Wy b cs W) (hv : cs[j]? = some v) : W.cell? ⟨b, j, none⟩ = some v := cell_at h hv
abbrev ways8 : Array Value := #[sV kT, sV [], sV [], .func (.func 72) #[] #[], sV kH, sV ulA, sV ulB, .func (.func 80) #[] #[]]
def JP (l : List It) (w : World) (e : Ending) (w' : World) : Prop := ∃ xv, e = .returned (.tuple #[xv, sV b0]) ∧ OwnB w.heap.size xv (joined (two l)) w' ∧ Kept w w'
set_option maxRecDepth 100000 in
set_option maxHeartbeats 8000000 in
theorem joined_any (v : Value) (l : List It) (w : World) (hR : ItRd v l w) (hE : EX w) (hS : Sm l) : Calls Tryz.prog 26 #[v] w (JP l w) := by
  have HR := Lib.hid hR
  have HE := Lib.hid hE
  have HS := Lib.hid hS
  have HW1 := Lib.hid (fun w hR hE => wText_any v l w hR hE hS)
  have HW2 := Lib.hid (fun w hR hE => wHtml_any v l w hR hE hS)
  have HJ := Lib.hid (fun kv lv w hk hl hE => join_two kv lv l w hk hl hE hS)
  have HX := Lib.hid (show ∀ (w w' : World) (e : Ending), (∃ xv, e = .returned (.tuple #[xv, sV b0]) ∧ OwnB w.heap.size xv (joined (two l)) w' ∧ Kept w w') → JP l w e w' from fun _ _ _ h => h)
  obtain ⟨va, vc, rfl⟩ := hR.slice
  clear hR hE hS
  go_enter Tryz.func26, Tryz.ntmps26
  go_wp2_with fail
  refine (asText_any _).mono ?_
  rintro e y1 ⟨rfl, k1⟩
  go_wp2_with fail
  refine (asHtml_any _).mono ?_
  rintro e y2 ⟨rfl, k2⟩
  have K0 := Lib.hid ((k1.trans k2).alloc (.cells ways8 64))
  have gw := (Kept.refl (y2.alloc (.cells ways8 64)))
  have d0 := gw.new 0 (v := sV kT) rfl
  have d1 := gw.new 1 (v := sV []) rfl
  have d2 := gw.new 2 (v := sV []) rfl
  have d3 := gw.new 3 (v := .func (.func 72) #[] #[]) rfl
  have d4 := gw.new 4 (v := sV kH) rfl
  have d5 := gw.new 5 (v := sV ulA) rfl
  have d6 := gw.new 6 (v := sV ulB) rfl
  have d7 := gw.new 7 (v := .func (.func 80) #[] #[]) rfl
  clear k1 k2 gw
  go_upto_region 4 with (fail)
  generalize hwb : y2.heap.size = wb at *
  generalize y2.alloc (.cells ways8 64) = y0 at *
  go_wp2_with fail
  go_loopw [4, 5, 7, 15] (fun kv bv _ vi wr => ∃ i : Nat, i ≤ 2 ∧ vi = .int .i64 i ∧ Hid (Jn y0 kv bv ([kT, kH].take i) ([txt l, htm l].take i) wr)) (fun _ _ _ vi _ => 2 - (intOf vi).toNat)
  case atStart => exact ⟨0, Nat.zero_le _, rfl, Lib.hid ⟨Kept.refl _, Hd.OwnS.nil _ _, OwnLb.nil _ _⟩⟩
  case round =>
    obtain ⟨i, hi, rfl, hJ⟩ := hrel
    obtain rfl | rfl | rfl : i = 0 ∨ i = 1 ∨ i = 2 := by omega
    · have hJ1 : Hid (Jn y0 u4 u5 [] [] wr) := hJ
      have b0 := hJ1.out.k.yes d0
      have b1 := hJ1.out.k.yes d1
      have b2 := hJ1.out.k.yes d2
      have b3 := hJ1.out.k.yes d3
      have W0 := Lib.hid (Wy.new wr #[sV kT, sV [], sV [], .func (.func 72) #[] #[]])
      have J1 := Lib.hid (hJ1.out.kept ((Kept.refl wr).alloc (.cells #[sV kT, sV [], sV [], .func (.func 72) #[] #[]] 64)))
      clear hJ hJ1
      go_upto_region 6 with (fail)
      generalize wr.alloc (.cells #[sV kT, sV [], sV [], .func (.func 72) #[] #[]] 64) = x0 at *
      generalize wr.heap.size = wd at *
      clear b0 b1 b2 b3
      have al := (Kept.refl x0).alloc (.cells #[sV kT] 9)
      have J2 := Lib.hid (J1.out.kept al)
      have W2 := Lib.hid (W0.out.kept al)
      have hc := (Kept.refl (x0.alloc (.cells #[sV kT] 9))).new 0 (v := sV kT) rfl
      have c0 := Wy.c W0.out (j := 0) rfl
      have hB := J2.out.k.size
      clear al J1
      go_wp2_with (at_builtin; refine Hd.wpList_pushS rfl _ _ rfl y0.heap.size _ _ kT x0.heap.size rfl J2.out.s rfl hc (by decide) hB ?_)
      intro kv2 x1 hs1 hg1
      have J3 := Lib.hid (show Jn y0 kv2 u5 [kT] [] x1 from J2.out.pushS hs1 hg1)
      have W3 := Lib.hid (W2.out.grow J2.out.s (by decide) hg1)
      clear hs1 hg1 hc c0 hB J2 W2 W0
      have c0 := Wy.c W3.out (j := 0) rfl
      have c1 := Wy.c W3.out (j := 1) rfl
      have c2 := Wy.c W3.out (j := 2) rfl
      have c3 := Wy.c W3.out (j := 3) rfl
      go_wp2_with fail
      refine (HW1.out _ (HR.out.kept (K0.out.trans J3.out.k)) (HE.out.p.kept (K0.out.trans J3.out.k))).mono ?_
      rintro e x2 ⟨rfl, k2⟩
      have J4 := Lib.hid (J3.out.kept k2)
      clear k2 c0 c1 c2 c3 J3 W3
      generalize htx : txt l = tx at *
      have HTX := Lib.hid htx
      clear htx
      obtain ⟨xb, x3, hcv, k3, hb3⟩ := to_bytesB tx x2
      obtain ⟨bg, bc, hxb⟩ : ∃ g cap, xb = .slice (some ⟨g, 0, none⟩) tx.length cap := by obtain ⟨g, cap, _, _, h, _⟩ := hb3; exact ⟨g, cap, h⟩
      subst hxb
      have J5 := J4.out.kept k3
      have al := (Kept.refl x3).alloc (.cells #[.slice (some ⟨bg, 0, none⟩) tx.length bc] 25)
      have J6 := Lib.hid (J5.kept al)
      have hb6 := Lib.hid (hb3.kept al)
      have hc6 := (Kept.refl (x3.alloc (.cells #[.slice (some ⟨bg, 0, none⟩) tx.length bc] 25))).new 0 (v := .slice (some ⟨bg, 0, none⟩) tx.length bc) rfl
      have hB6 := J6.out.k.size
      clear k3 hb3 J5 al J4
      go_wp2_with (at_builtin; refine wpList_pushB rfl _ _ rfl y0.heap.size _ _ tx _ x3.heap.size rfl J6.out.b rfl hc6 hb6.out (by simp) hB6 ?_)
      intro bv2 x4 hs4 hg4
      have J7 := Lib.hid (J6.out.pushB hs4 hg4)
      clear hs4 hg4 hc6 hb6 hB6 J6 hcv
      go_wp2
      have htx := HTX.out
      subst htx
      go_roundw
      case rel => exact ⟨1, by omega, by go_num, J7⟩
      case measure => simp [intOf]
    · have hJ1 : Hid (Jn y0 u4 u5 [kT] [txt l] wr) := hJ
      have b0 := hJ1.out.k.yes d4
      have b1 := hJ1.out.k.yes d5
      have b2 := hJ1.out.k.yes d6
      have b3 := hJ1.out.k.yes d7
      have W0 := Lib.hid (Wy.new wr #[sV kH, sV ulA, sV ulB, .func (.func 80) #[] #[]])
      have J1 := Lib.hid (hJ1.out.kept ((Kept.refl wr).alloc (.cells #[sV kH, sV ulA, sV ulB, .func (.func 80) #[] #[]] 64)))
      clear hJ hJ1
      go_upto_region 6 with (fail)
      generalize wr.alloc (.cells #[sV kH, sV ulA, sV ulB, .func (.func 80) #[] #[]] 64) = x0 at *
      generalize wr.heap.size = wd at *
      clear b0 b1 b2 b3
      have al := (Kept.refl x0).alloc (.cells #[sV kH] 9)
      have J2 := Lib.hid (J1.out.kept al)
      have W2 := Lib.hid (W0.out.kept al)
      have hc := (Kept.refl (x0.alloc (.cells #[sV kH] 9))).new 0 (v := sV kH) rfl
      have c0 := Wy.c W0.out (j := 0) rfl
      have hB := J2.out.k.size
      clear al J1
      go_wp2_with (at_builtin; refine Hd.wpList_pushS rfl _ _ rfl y0.heap.size _ _ kH x0.heap.size rfl J2.out.s rfl hc (by decide) hB ?_)
      intro kv2 x1 hs1 hg1
      have J3 := Lib.hid (show Jn y0 kv2 u5 [kT, kH] [txt l] x1 from J2.out.pushS hs1 hg1)
      have W3 := Lib.hid (W2.out.grow J2.out.s (by decide) hg1)
      clear hs1 hg1 hc c0 hB J2 W2 W0
      have c0 := Wy.c W3.out (j := 0) rfl
      have c1 := Wy.c W3.out (j := 1) rfl
      have c2 := Wy.c W3.out (j := 2) rfl
      have c3 := Wy.c W3.out (j := 3) rfl
      go_wp2_with fail
      refine (HW2.out _ (HR.out.kept (K0.out.trans J3.out.k)) (HE.out.p.kept (K0.out.trans J3.out.k))).mono ?_
      rintro e x2 ⟨rfl, k2⟩
      have J4 := Lib.hid (J3.out.kept k2)
      clear k2 c0 c1 c2 c3 J3 W3
      generalize htx : htm l = tx at *
      have HTX := Lib.hid htx
      clear htx
      obtain ⟨xb, x3, hcv, k3, hb3⟩ := to_bytesB tx x2
      obtain ⟨bg, bc, hxb⟩ : ∃ g cap, xb = .slice (some ⟨g, 0, none⟩) tx.length cap := by obtain ⟨g, cap, _, _, h, _⟩ := hb3; exact ⟨g, cap, h⟩
      subst hxb
      have J5 := J4.out.kept k3
      have al := (Kept.refl x3).alloc (.cells #[.slice (some ⟨bg, 0, none⟩) tx.length bc] 25)
      have J6 := Lib.hid (J5.kept al)
      have hb6 := Lib.hid (hb3.kept al)
      have hc6 := (Kept.refl (x3.alloc (.cells #[.slice (some ⟨bg, 0, none⟩) tx.length bc] 25))).new 0 (v := .slice (some ⟨bg, 0, none⟩) tx.length bc) rfl
      have hB6 := J6.out.k.size
      clear k3 hb3 J5 al J4
      go_wp2_with (at_builtin; refine wpList_pushB rfl _ _ rfl y0.heap.size _ _ tx _ x3.heap.size rfl J6.out.b rfl hc6 hb6.out (by simp) hB6 ?_)
      intro bv2 x4 hs4 hg4
      have J7 := Lib.hid (J6.out.pushB hs4 hg4)
      clear hs4 hg4 hc6 hb6 hB6 J6 hcv
      go_wp2
      have htx := HTX.out
      subst htx
      go_roundw
      case rel => exact ⟨2, by omega, by go_num, J7⟩
      case measure => simp [intOf]
    · have hJ1 : Hid (Jn y0 u4 u5 [kT, kH] [txt l, htm l] wr) := hJ
      clear hJ
      go_wp2_with fail
      refine (HJ.out _ _ _ hJ1.out.s.rd hJ1.out.b.rd (HE.out.kept (K0.out.trans hJ1.out.k)).e).mono ?_
      rintro e z ⟨xv, rfl, ho, kz⟩
      have KZ := Lib.hid ((K0.out.trans hJ1.out.k).trans kz)
      have HO := Lib.hid (own_mono ho (K0.out.trans hJ1.out.k).size)
      clear ho kz
      go_wp2
      go_ret2
      exact HX.out _ _ _ ⟨xv, rfl, HO.out, KZ.out⟩
end Go.Proofs.YtjlpkgipdkjfhaaGreatDoor.Bk.Dg
