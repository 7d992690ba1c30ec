/- Plain mathematics of feeds: many items. -/
import Derived.Test.YtflhmgnhjnaiiaaGreatDoorFwDE
import Derived.Test.YtflhmgnhjnaiiaaGreatDoorFwB
set_option linter.unusedSimpArgs false
set_option linter.unusedVariables false
namespace Go.Proofs.YtflhmgnhjnaiiaaGreatDoor.Fd
open En Xm
theorem num3_dig (i : Nat) (h : i < 1000) : ∀ c ∈ num3 i, 48 ≤ c.toNat ∧ c.toNat ≤ 57 := fun c hc => by
  unfold num3 at hc
  simp only [List.mem_cons, List.not_mem_nil, or_false] at hc
  rcases hc with rfl | rfl | rfl <;> simp <;> omega
theorem num3_enc (i : Nat) (h : i < 1000) : enc (num3 i) = num3 i := enc_id (fun c hc => by
  have := num3_dig i h c hc
  refine ⟨?_, ?_, ?_, ?_⟩ <;> (rintro rfl; simp at this))
theorem num3_tr (i : Nat) (h : i < 1000) : tr (num3 i) = num3 i := tr_word (fun c hc => by
  have := num3_dig i h c hc
  unfold spB
  simp; omega)
def itM (i : Nat) : List Tk := el sItem [] (el sGuid [] (tw (num3 i)))
def itB (i : Nat) (R : B) : B := opn sItem (opn sGuid (num3 i ++ cls sGuid (cls sItem R)))
def itA (i : Nat) : B := itB i []
theorem itB_app (i : Nat) (R : B) : itB i R = itA i ++ R := by unfold itA itB opn cls; simp
theorem itA_len (i : Nat) : (itA i).length = 29 := by unfold itA itB opn cls num3 sItem sGuid; simp
def tail9 : B := cls sChan (cls sRss [])
def kMany (l : List Nat) : B := opn sRss (opn sChan (l.flatMap itA ++ tail9))
def cMany (l : List Nat) : List Tk := el sChan [] (l.flatMap itM)
def mMany (l : List Nat) : List Tk := el sRss [] (cMany l)
theorem items_hd (l : List Nat) : ∃ R', l.flatMap itA ++ tail9 = 60 :: R' := by
  cases l with
  | nil => exact ⟨_, rfl⟩
  | cons i l => exact ⟨_, rfl⟩
theorem items_dn : ∀ (l : List Nat) (m : List Tk), (∀ i ∈ l, i < 1000) → Dn tail9 (([] ++ [sRss]) ++ [sChan]) 1 m → Dn (l.flatMap itA ++ tail9) (([] ++ [sRss]) ++ [sChan]) 1 (l.flatMap itM ++ m)
  | [], m, _, h => h
  | i :: l, m, hl, h => by
    have ih := items_dn l m (fun j hj => hl j (by simp [hj])) h
    have q := Dn.opS (nm := sItem) (by decide) (by simp) (Dn.opS (nm := sGuid) (by decide) (by simp) (Dn.txS (num3_enc i (hl i (by simp))) (cls_hd _ _) (Dn.clS (nm := sGuid) (by decide) (Dn.clS (nm := sItem) (by decide) ih))))
    have e : (i :: l).flatMap itA ++ tail9 = opn sItem (opn sGuid (num3 i ++ cls sGuid (cls sItem (l.flatMap itA ++ tail9)))) := by
      rw [List.flatMap_cons, List.append_assoc, ← itB_app]; rfl
    rw [e]
    exact dn_eq q (by simp [itM, el])
theorem many_dn (l : List Nat) (hl : ∀ i ∈ l, i < 1000) : Dn (kMany l) [] 0 (mMany l) := by
  have h := Dn.op1 (nm := sRss) (by decide) (Dn.opS (nm := sChan) (by decide) (by simp) (items_dn l _ hl (Dn.clS (nm := sChan) (by decide) (Dn.clS (nm := sRss) (by decide) (Dn.nil (Nat.le_refl 1))))))
  exact dn_eq h (by simp [mMany, cMany, el])
theorem items_pb : ∀ (l : List Nat), Pb (l.flatMap itM) (l.map itM)
  | [] => pb_nil
  | i :: l => by
    rw [List.flatMap_cons, List.map_cons]
    exact pb_app (ps := [itM i]) (pb_el (bal_el (bal_tw _))) (items_pb l)
theorem items_bal : ∀ (l : List Nat), Bal (l.flatMap itM)
  | [] => bal_nil
  | i :: l => by
    rw [List.flatMap_cons]
    exact bal_app (bal_el (bal_el (bal_tw _))) (items_bal l)
theorem items_nmd : ∀ (l : List Nat), named [sItem] (l.map itM) = l.map itM
  | [] => rfl
  | i :: l => by
    rw [List.map_cons, show itM i = el sItem [] (el sGuid [] (tw (num3 i))) from rfl, nmd_el, if_pos (by decide), items_nmd l]
theorem items_fst : ∀ (l : List Nat), fstL [sTitle] (l.map itM) = []
  | [] => rfl
  | i :: l => by
    rw [List.map_cons, show itM i = el sItem [] (el sGuid [] (tw (num3 i))) from rfl, fstL_el, if_neg (by decide), items_fst l]
def enM (i : Nat) : Ent := (num3 i, [], [], [], 0)
theorem flat_len : ∀ (l : List Nat), (l.flatMap itA).length = 29 * l.length
  | [] => rfl
  | i :: l => by rw [List.flatMap_cons, List.length_append, itA_len, flat_len l, List.length_cons]; omega
theorem many_len (l : List Nat) (h : l.length ≤ 260) : (kMany l).length ≤ 10000 := by
  have := flat_len l
  unfold kMany opn tail9 cls sRss sChan
  simp only [List.length_append, List.length_cons, List.length_nil]
  omega
theorem many_rd (ps : B → Option Int) (l : List Nat) (hl : ∀ i ∈ l, i < 1000) (hn : l.length ≤ 260) : rdP ps (kMany l) = (([], (l.take 200).map enM), 0) := by
  have ht := (many_dn l hl).tok (Nat.le_trans (many_len l hn) (by decide))
  have p3 : parts (mMany l) = [cMany l] := parts_el (pb_el (items_bal l))
  have p2 : parts (cMany l) = l.map itM := parts_el (items_pb l)
  unfold rdP
  rw [ht, if_pos rfl]
  unfold exP
  rw [if_pos (nested_of ht), show nm1 (mMany l) = sRss from rfl, if_pos rfl, p3, show named [sChan] [cMany l] = [cMany l] from by unfold cMany; rw [nmd_el, if_pos (by decide), nmd_nil]]
  simp only
  unfold bodyP
  rw [vOf_L p2, p2, items_fst, items_nmd, ← List.map_take, List.map_map]
  congr 2
  refine List.map_congr_left (fun i hi => ?_)
  have h1 : entR (itM i) = (num3 i, [], [], [], 0) := ent_gu (parts_el (pb_el (bal_tw _))) (by decide) (num3_tr i (hl i (List.mem_of_mem_take hi)))
  show cut4 (entR (itM i)) = enM i
  rw [h1]; rfl
end Go.Proofs.YtflhmgnhjnaiiaaGreatDoor.Fd
